import Derived.Test.YtmgcmiflbjhakaaGreatDoorW16
import Derived.Test.YtmgcmiflbjhakaaGreatDoorRows
import Derived.Test.YtmgcmiflbjhakaaGreatDoorTie
import Derived.Test.YtmgcmiflbjhakaaGreatDoorCards
import Derived.ProofKit
import Derived.OpenShut
import Derived.LaidMore
import Derived.Lay
import Derived.SevenTiedAt
import Derived.SizedLaws
import Derived.Stop.Joined
import Derived.Shelf.Vars
import Derived.Lib.SmallJoins
import Derived.Handed
import Derived.Carry
import Derived.Deep.Slices
import Derived.Deep.Fields
import Derived.ChangeSame

/- The law ExprTruths: its walk, over what comes out of Few. -/
namespace Go.Proofs.YtmgcmiflbjhakaaGreatDoor
open Go.RowKit Go.Lib

/-- What Few answers: an expression of no more than 14 levels, whose blocks are new. -/
def FewE (v : Value) (w : World) : Prop := ∀ W, Below w.heap.size w W → Calls Tryz.prog 9 #[v] W fun e w' => (∃ t u, e = .returned (EVt t u) ∧ Tr w' (fun b => W.heap.size ≤ b) 14 t u) ∧ Below W.heap.size W w'

/-- The law's variables, behind the first row: the box of the expression, columns, a row. -/
structure Tru (w : World) (t : Ex) (u : Value) (A : Option Addr) (n : Nat) (cs : List Cl) (A' : Option Addr) (m : Nat) (row : List Vl) (W : World) : Prop where
  pl : Below w.heap.size w W
  lt : w.heap.size < W.heap.size
  box : ExC W ⟨w.heap.size, 0, none⟩ t u
  tr : Tr W (fun b => w.heap.size < b) 14 t u
  cols : ColS W A n cs
  vals : Vals W W.heap.size A' m row
theorem Tru.put {w W : World} {t t0 : Ex} {u u0 : Value} {A : Option Addr} {n : Nat} {cs : List Cl} {A' : Option Addr} {m : Nat} {row : List Vl} (pl : Below w.heap.size w W) (lt : w.heap.size < W.heap.size) (box : ExC W ⟨w.heap.size, 0, none⟩ t0 u0) (tr : Tr W (fun b => w.heap.size < b) 14 t u) (cols : ColS W A n cs) (hA : ∀ a, A = some a → w.heap.size < a.block) (vals : Vals W W.heap.size A' m row) (hA' : ∀ a, A' = some a → w.heap.size < a.block) :
    Tru w t u A n cs A' m row (set6 W w.heap.size (.string t.op) (.int .i64 t.x.k) (.int .i64 t.x.i) (.string t.x.s) (.string t.s) u) := by
  refine ⟨?_, by rw [set6_size]; exact lt, set6_box box u, Tr.set6 tr (by omega) (fun _ h _ => h) _ _ _ _ _ _, cols.keep fun a e => set6_block _ _ _ _ _ _ _ _ (by have := hA a e; omega), ?_⟩
  · unfold set6
    exact (((((pl.setCell (Nat.le_refl _) _).setCell (Nat.le_refl _) _).setCell (Nat.le_refl _) _).setCell (Nat.le_refl _) _).setCell (Nat.le_refl _) _).setCell (Nat.le_refl _) _
  · rw [set6_size]
    exact vals.stay fun a e => set6_block _ _ _ _ _ _ _ _ (by have := hA' a e; omega)

theorem Tru.later {w W W' : World} {t : Ex} {u : Value} {A : Option Addr} {n : Nat} {cs : List Cl} {A' : Option Addr} {m : Nat} {row : List Vl} (h : Tru w t u A n cs A' m row W) (hb : Below W.heap.size W W') : Tru w t u A n cs A' m row W' :=
  ⟨h.pl.trans (hb.mono (Nat.le_of_lt h.lt)), Nat.lt_of_lt_of_le h.lt hb.size, h.box.keep (hb.block _ h.lt), h.tr.below hb, h.cols.below hb, (h.vals.keep hb).more hb.size⟩
/-- Two boxes more: its NOT, its IS NULL. -/
structure Tru2 (w : World) (t : Ex) (u : Value) (A : Option Addr) (n : Nat) (cs : List Cl) (A' : Option Addr) (m : Nat) (row : List Vl) (b : Nat) (W : World) : Prop where
  base : Tru w t u A n cs A' m row W
  lb : w.heap.size < b
  lt : b + 1 + 1 + 1 < W.heap.size
  no : ExC W ⟨b + 1, 0, none⟩ (oneT ⟨#[110, 111, 116]⟩ t) (.slice (some ⟨b, 0, none⟩) 1 1)
  nul : ExC W ⟨b + 1 + 1 + 1, 0, none⟩ (oneT ⟨#[110, 117, 108, 108]⟩ t) (.slice (some ⟨b + 1 + 1, 0, none⟩) 1 1)
  trn : Tr W (fun b => w.heap.size < b) 15 (oneT ⟨#[110, 111, 116]⟩ t) (.slice (some ⟨b, 0, none⟩) 1 1)
  tru : Tr W (fun b => w.heap.size < b) 15 (oneT ⟨#[110, 117, 108, 108]⟩ t) (.slice (some ⟨b + 1 + 1, 0, none⟩) 1 1)
def eO (t : Ex) (u : Value) : Obj := .cells #[.string t.op, .int .i64 t.x.k, .int .i64 t.x.i, .string t.x.s, .string t.s, u] 26
theorem Tru2.start {w W : World} {t : Ex} {B : Option Addr} {p q : Nat} {A : Option Addr} {n : Nat} {cs : List Cl} {A' : Option Addr} {m : Nat} {row : List Vl} (h : Tru w t (.slice B p q) A n cs A' m row W) :
    Tru2 w t (.slice B p q) A n cs A' m row W.heap.size ((((W.alloc (eO t (.slice B p q))).alloc (eO (oneT ⟨#[110, 111, 116]⟩ t) (.slice (some ⟨W.heap.size, 0, none⟩) 1 1))).alloc (eO t (.slice B p q))).alloc (eO (oneT ⟨#[110, 117, 108, 108]⟩ t) (.slice (some ⟨W.heap.size + 1 + 1, 0, none⟩) 1 1))) := by
  have a1 : Below W.heap.size W (W.alloc (eO t (.slice B p q))) := (Below.refl _ _).alloc (Nat.le_refl _) _
  have a2 : Below W.heap.size W ((W.alloc (eO t (.slice B p q))).alloc (eO (oneT ⟨#[110, 111, 116]⟩ t) (.slice (some ⟨W.heap.size, 0, none⟩) 1 1))) := a1.alloc (by simp) _
  have a3 := a2.alloc (o := eO t (.slice B p q)) (by simp; omega)
  have a4 := a3.alloc (o := eO (oneT ⟨#[110, 117, 108, 108]⟩ t) (.slice (some ⟨W.heap.size + 1 + 1, 0, none⟩) 1 1)) (by simp; omega)
  have hl := h.lt
  have t1 := one_tr ⟨#[110, 111, 116]⟩ h.tr hl
  have hk := (h.later a2)
  have t2 := one_tr ⟨#[110, 117, 108, 108]⟩ hk.tr hk.lt
  have s2 : ((W.alloc (eO t (.slice B p q))).alloc (eO (oneT ⟨#[110, 111, 116]⟩ t) (.slice (some ⟨W.heap.size, 0, none⟩) 1 1))).heap.size = W.heap.size + 1 + 1 := by simp
  rw [s2] at t2
  refine ⟨h.later a4, hl, by simp, ?_, ?_, ?_, ?_⟩
  · refine box_cells (t := oneT ⟨#[110, 111, 116]⟩ t) ?_
    rw [Below.heap_alloc _ _ _ (by simp), Below.heap_alloc _ _ _ (by simp)]
    exact alloc_at (by simp) _
  · refine box_cells (t := oneT ⟨#[110, 117, 108, 108]⟩ t) ?_
    exact alloc_at (by simp) _
  · exact (((t1.below ((Below.refl _ _).alloc (Nat.le_refl _) _)).below ((Below.refl _ _).alloc (Nat.le_refl _) _)).below ((Below.refl _ _).alloc (Nat.le_refl _) _))
  · exact t2.below ((Below.refl _ _).alloc (Nat.le_refl _) _)

theorem Tru2.later {w W W' : World} {t : Ex} {u : Value} {A : Option Addr} {n : Nat} {cs : List Cl} {A' : Option Addr} {m : Nat} {row : List Vl} {b : Nat} (h : Tru2 w t u A n cs A' m row b W) (hb : Below W.heap.size W W') : Tru2 w t u A n cs A' m row b W' :=
  ⟨h.base.later hb, h.lb, Nat.lt_of_lt_of_le h.lt hb.size, h.no.keep (hb.block _ (by have := h.lt; show b + 1 < _; omega)), h.nul.keep (hb.block _ h.lt), h.trn.below hb, h.tru.below hb⟩
/-- One or its NOT. -/
structure TruE (w : World) (t : Ex) (u : Value) (A : Option Addr) (n : Nat) (cs : List Cl) (A' : Option Addr) (m : Nat) (row : List Vl) (b d : Nat) (W : World) : Prop where
  base : Tru2 w t u A n cs A' m row b W
  lt : d + 1 < W.heap.size
  lb : w.heap.size < d
  ei : ExC W ⟨d + 1, 0, none⟩ (twoT ⟨#[111, 114]⟩ t (oneT ⟨#[110, 111, 116]⟩ t)) (.slice (some ⟨d, 0, none⟩) 2 2)
  tre : Tr W (fun b => w.heap.size < b) 16 (twoT ⟨#[111, 114]⟩ t (oneT ⟨#[110, 111, 116]⟩ t)) (.slice (some ⟨d, 0, none⟩) 2 2)
def eO2 (x y : Ex) (u v : Value) : Obj := .cells #[.string x.op, .int .i64 x.x.k, .int .i64 x.x.i, .string x.x.s, .string x.s, u, .string y.op, .int .i64 y.x.k, .int .i64 y.x.i, .string y.x.s, .string y.s, v] 26
theorem up15 {V : World} {P : Nat → Prop} {t : Ex} {u : Value} (k : Tr V P 14 t u) : Tr V P 15 t u := ⟨k.1, k.2.more (by omega)⟩
theorem TruE.start {w W : World} {t : Ex} {B : Option Addr} {p q : Nat} {A : Option Addr} {n : Nat} {cs : List Cl} {A' : Option Addr} {m : Nat} {row : List Vl} {b : Nat} (h : Tru2 w t (.slice B p q) A n cs A' m row b W) :
    TruE w t (.slice B p q) A n cs A' m row b W.heap.size ((W.alloc (eO2 t (oneT ⟨#[110, 111, 116]⟩ t) (.slice B p q) (.slice (some ⟨b, 0, none⟩) 1 1))).alloc (eO (twoT ⟨#[111, 114]⟩ t (oneT ⟨#[110, 111, 116]⟩ t)) (.slice (some ⟨W.heap.size, 0, none⟩) 2 2))) := by
  have a1 : Below W.heap.size W (W.alloc (eO2 t (oneT ⟨#[110, 111, 116]⟩ t) (.slice B p q) (.slice (some ⟨b, 0, none⟩) 1 1))) := (Below.refl _ _).alloc (Nat.le_refl _) _
  have a2 := a1.alloc (o := eO (twoT ⟨#[111, 114]⟩ t (oneT ⟨#[110, 111, 116]⟩ t)) (.slice (some ⟨W.heap.size, 0, none⟩) 2 2)) (by simp)
  have t1 := two_tr ⟨#[111, 114]⟩ (up15 h.base.tr) h.trn h.base.lt
  exact ⟨h.later a2, by simp, h.base.lt, box_cells (t := twoT ⟨#[111, 114]⟩ t (oneT ⟨#[110, 111, 116]⟩ t)) (alloc_at (by simp) _), t1.below ((Below.refl _ _).alloc (Nat.le_refl _) _)⟩
theorem TruE.later {w W W' : World} {t : Ex} {u : Value} {A : Option Addr} {n : Nat} {cs : List Cl} {A' : Option Addr} {m : Nat} {row : List Vl} {b d : Nat} (h : TruE w t u A n cs A' m row b d W) (hb : Below W.heap.size W W') : TruE w t u A n cs A' m row b d W' :=
  ⟨h.base.later hb, Nat.lt_of_lt_of_le h.lt hb.size, h.lb, h.ei.keep (hb.block _ h.lt), h.tre.below hb⟩
/-- All boxes: one and its NOT, too. -/
structure Tru3 (w : World) (t : Ex) (u : Value) (A : Option Addr) (n : Nat) (cs : List Cl) (A' : Option Addr) (m : Nat) (row : List Vl) (b d f : Nat) (W : World) : Prop where
  base : TruE w t u A n cs A' m row b d W
  lt : f + 1 < W.heap.size
  bo : ExC W ⟨f + 1, 0, none⟩ (twoT ⟨#[97, 110, 100]⟩ t (oneT ⟨#[110, 111, 116]⟩ t)) (.slice (some ⟨f, 0, none⟩) 2 2)
  trb : Tr W (fun b => w.heap.size < b) 16 (twoT ⟨#[97, 110, 100]⟩ t (oneT ⟨#[110, 111, 116]⟩ t)) (.slice (some ⟨f, 0, none⟩) 2 2)
theorem Tru3.start {w W : World} {t : Ex} {B : Option Addr} {p q : Nat} {A : Option Addr} {n : Nat} {cs : List Cl} {A' : Option Addr} {m : Nat} {row : List Vl} {b d : Nat} (h : TruE w t (.slice B p q) A n cs A' m row b d W) :
    Tru3 w t (.slice B p q) A n cs A' m row b d W.heap.size ((W.alloc (eO2 t (oneT ⟨#[110, 111, 116]⟩ t) (.slice B p q) (.slice (some ⟨b, 0, none⟩) 1 1))).alloc (eO (twoT ⟨#[97, 110, 100]⟩ t (oneT ⟨#[110, 111, 116]⟩ t)) (.slice (some ⟨W.heap.size, 0, none⟩) 2 2))) := by
  have a1 : Below W.heap.size W (W.alloc (eO2 t (oneT ⟨#[110, 111, 116]⟩ t) (.slice B p q) (.slice (some ⟨b, 0, none⟩) 1 1))) := (Below.refl _ _).alloc (Nat.le_refl _) _
  have a2 := a1.alloc (o := eO (twoT ⟨#[97, 110, 100]⟩ t (oneT ⟨#[110, 111, 116]⟩ t)) (.slice (some ⟨W.heap.size, 0, none⟩) 2 2)) (by simp)
  have t1 := two_tr ⟨#[97, 110, 100]⟩ (up15 h.base.base.tr) h.base.trn h.base.base.lt
  exact ⟨h.later a2, by simp, box_cells (t := twoT ⟨#[97, 110, 100]⟩ t (oneT ⟨#[110, 111, 116]⟩ t)) (alloc_at (by simp) _), t1.below ((Below.refl _ _).alloc (Nat.le_refl _) _)⟩

theorem Tru3.later {w W W' : World} {t : Ex} {u : Value} {A : Option Addr} {n : Nat} {cs : List Cl} {A' : Option Addr} {m : Nat} {row : List Vl} {b d f : Nat} (h : Tru3 w t u A n cs A' m row b d f W) (hb : Below W.heap.size W W') : Tru3 w t u A n cs A' m row b d f W' :=
  ⟨h.base.later hb, Nat.lt_of_lt_of_le h.lt hb.size, h.bo.keep (hb.block _ h.lt), h.trb.below hb⟩

set_option maxRecDepth 100000 in
set_option maxHeartbeats 4000000 in
theorem law_truths (op : ByteArray) (k i : Int) (vs s : ByteArray) (B : Option Addr) (p q : Nat) (A : Option Addr) (n c : Nat) (l : List Cl) (A' : Option Addr) (m c' : Nat) (row : List Vl) (w : World) (hL : LibE w) (hF : FewE (.agg #[.string op, .int .i64 k, .int .i64 i, .string vs, .string s, .slice B p q]) w) (hc : ColS w A n l) (hcs : ∀ x ∈ l, x.n.size ≤ maxLen) (hm : m ≤ maxLen) (hv : Vals w w.heap.size A' m row) (hvs : ∀ x ∈ row, x.s.size ≤ maxLen) :
    Calls Tryz.prog 4 #[.agg #[.string op, .int .i64 k, .int .i64 i, .string vs, .string s, .slice B p q], .slice A n c, .slice A' m c'] w fun e w' => e = .returned (.bool true) ∧ Below w.heap.size w w' := by
  have HL := Lib.hid hL
  have HF := Lib.hid hF
  have HC := Lib.hid (And.intro hc hcs)
  have HV := Lib.hid (And.intro hm (And.intro hv hvs))
  clear hL hF hc hcs hv hvs hm
  go_enter Tryz.func4, Tryz.ntmps4
  go_upto_region 2 with (first
    | (go_at_call 9; refine (HF.out _ ((Below.refl _ _).alloc (Nat.le_refl _) _)).mono ?_; rintro e w1 ⟨⟨t, u, rfl, ht1⟩, hb1⟩; obtain ⟨B1, q1, rfl, _⟩ := ht1.form; unfold EVt; obtain ⟨p1, HN⟩ : ∃ p1, Hid (t.l.length = p1) := ⟨_, Lib.hid rfl⟩; rw [HN.out] at ht1 ⊢; have hc1 := (bcell hb1).1; have hf1 := (bcell hb1).2; have hy1 := hb1.size; (try simp at hy1); have hz1_0 : w.heap.size < w1.heap.size := (by omega); have HB1 : Hid (Below w.heap.size w w1) := ((Below.refl _ _).alloc (Nat.le_refl _) _).trans (hb1.mono (by simp)); have HD1 : Hid (Below (w.heap.size + 1) (w.alloc (.cells #[.string op, .int .i64 k, .int .i64 i, .string vs, .string s, .slice B p q] 26 (0, 0))) w1) := hb1.mono (by simp); have HT : Hid (Tr w1 (fun b => w.heap.size < b) 14 t (.slice B1 p1 q1)) := ht1.keep (fun _ _ _ => rfl) (fun b h _ => by simp at h; omega); clear ht1 hb1)
    | (go_at_call 10; refine (cols_any A n c l _ (HC.out.1.below HB1.out) HC.out.2).mono ?_; rintro e w2 ⟨⟨A2, n2, c2, cs, rfl, hcs2, hA2⟩, hb2⟩; have hc2 := (bcell hb2).1; have hf2 := (bcell hb2).2; have hy2 := hb2.size; (try simp at hy2); have hz2 : w.heap.size < w2.heap.size := (by omega); have HB2 : Hid (Below w1.heap.size w1 w2) := Lib.hid hb2; have HC2 := Lib.hid (And.intro hcs2 hA2); clear hcs2 hA2 hb2)
    | (go_at_call 11; refine (few2_any A' m c' row _ HV.out.1 ((HV.out.2.1.keep (HB1.out.trans (HB2.out.mono HB1.out.size))).more (by have := HB1.out.size; have := HB2.out.size; omega)) HV.out.2.2).mono ?_; rintro e w3 ⟨v3, rfl, hv3, hb3⟩; obtain ⟨A3, c3, rfl, hv4, hq3, hm3, hA3⟩ := Vals.own hv3; obtain ⟨m3, HM3⟩ : ∃ m3, Hid ((fewL row).length = m3) := ⟨_, Lib.hid rfl⟩; rw [HM3.out] at hv4 hq3 ⊢; have hz3 : w.heap.size < w3.heap.size := (by have := hb3.size; omega); have e3 := (hb3.block w.heap.size (by omega)).trans ((HB2.out.block w.heap.size (by omega)).trans ((HD1.out.block w.heap.size (by omega)).trans (alloc_at rfl (.cells #[.string op, .int .i64 k, .int .i64 i, .string vs, .string s, .slice B p q] 26 (0, 0))))); have hw12 := HB2.out.size; have hw11 := HB1.out.size; have H3 := Lib.hid (Tru.put (t := t) (u := .slice B1 p1 q1) (A := A2) (n := n2) (cs := cs) (A' := A3) (m := m3) (row := fewL row) (HB1.out.trans ((HB2.out.trans (hb3.mono hw12)).mono hw11)) hz3 (box_cells (t := .mk op ⟨k, i, vs⟩ s []) e3) ((HT.out.below HB2.out).below hb3) (HC2.out.1.below hb3) (fun a e => by have := HC2.out.2 a e; omega) hv4 (fun a e => by have := hA3 a e; omega)); have HQ3 := Lib.hid (And.intro hq3 hm3); clear hv3 hv4 hq3 hm3 hA3 hb3 hc1 hf1 hc2 hf2; have kf := Lib.frozen_of_heap e3; have k0 := Lib.cell_of_heap e3 0; have k1 := Lib.cell_of_heap e3 1; have k2 := Lib.cell_of_heap e3 2; have k3 := Lib.cell_of_heap e3 3; have k4 := Lib.cell_of_heap e3 4; have k5 := Lib.cell_of_heap e3 5; clear e3; simp only [List.getElem?_toArray, List.getElem?_cons_zero, List.getElem?_cons_succ] at k0 k1 k2 k3 k4 k5))
  refine wp_gen (Tru w t (.slice B1 p1 q1) A2 n2 cs A3 m3 (fewL row)) H3.out fun w4 h4 => ?_
  have H4 := Lib.hid h4
  clear h4 k0 k1 k2 k3 k4 k5 kf
  have q0 := H4.out.box.c0
  have q1' := H4.out.box.c1
  have q2 := H4.out.box.c2
  have q3 := H4.out.box.c3
  have q4 := H4.out.box.c4
  have q5 := H4.out.box.c5
  have hz4 := H4.out.lt
  simp only [Nat.zero_add] at q0 q1' q2 q3 q4 q5
  clear hz3 hw12 hw11 hy1 hy2 hz1_0 hz2
  go_upto_region 4 with (fail)
  refine wp_gen (Tru2 w t (.slice B1 p1 q1) A2 n2 cs A3 m3 (fewL row) w4.heap.size) (Tru2.start H4.out) fun w5 h5 => ?_
  have H5 := Lib.hid h5
  clear h5 q0 q1' q2 q3 q4 q5
  obtain ⟨b4, HB4⟩ : ∃ b4, Hid (w4.heap.size = b4) := ⟨_, Lib.hid rfl⟩
  rw [HB4.out] at H5 ⊢
  clear H4 hz4
  have q0 := H5.out.base.box.c0
  have q1' := H5.out.base.box.c1
  have q2 := H5.out.base.box.c2
  have q3 := H5.out.base.box.c3
  have q4 := H5.out.base.box.c4
  have q5 := H5.out.base.box.c5
  have r0 := H5.out.no.c0
  have r1 := H5.out.no.c1
  have r2 := H5.out.no.c2
  have r3 := H5.out.no.c3
  have r4 := H5.out.no.c4
  have r5 := H5.out.no.c5
  have hz5 := H5.out.base.lt
  simp only [Nat.zero_add] at q0 q1' q2 q3 q4 q5 r0 r1 r2 r3 r4 r5
  go_upto_region 5 with (fail)
  refine wp_gen (TruE w t (.slice B1 p1 q1) A2 n2 cs A3 m3 (fewL row) b4 w5.heap.size) (TruE.start H5.out) fun w6 h6 => ?_
  have H6 := Lib.hid h6
  clear h6 q0 q1' q2 q3 q4 q5 r0 r1 r2 r3 r4 r5 hz5
  obtain ⟨b5, HB5⟩ : ∃ b5, Hid (w5.heap.size = b5) := ⟨_, Lib.hid rfl⟩
  rw [HB5.out] at H6 ⊢
  clear H5
  have q0 := H6.out.base.base.box.c0
  have q1' := H6.out.base.base.box.c1
  have q2 := H6.out.base.base.box.c2
  have q3 := H6.out.base.base.box.c3
  have q4 := H6.out.base.base.box.c4
  have q5 := H6.out.base.base.box.c5
  have r0 := H6.out.base.no.c0
  have r1 := H6.out.base.no.c1
  have r2 := H6.out.base.no.c2
  have r3 := H6.out.base.no.c3
  have r4 := H6.out.base.no.c4
  have r5 := H6.out.base.no.c5
  have hz6 := H6.out.base.base.lt
  simp only [Nat.zero_add] at q0 q1' q2 q3 q4 q5 r0 r1 r2 r3 r4 r5
  go_upto_region 6 with (fail)
  refine wp_gen (Tru3 w t (.slice B1 p1 q1) A2 n2 cs A3 m3 (fewL row) b4 b5 w6.heap.size) (Tru3.start H6.out) fun w7 h7 => ?_
  have H7 := Lib.hid h7
  clear h7 q0 q1' q2 q3 q4 q5 r0 r1 r2 r3 r4 r5 hz6
  obtain ⟨b6, HB6⟩ : ∃ b6, Hid (w6.heap.size = b6) := ⟨_, Lib.hid rfl⟩
  rw [HB6.out] at H7 ⊢
  clear H6
  have e0 : w7.cell? ⟨b5 + 1, 0, none⟩ = some (.string ⟨#[111, 114]⟩) := by have := H7.out.base.ei.c0; first | exact this | (simp only [Nat.zero_add] at this; exact this)
  have e1 : w7.cell? ⟨b5 + 1, 1, none⟩ = some (.int .i64 0) := by have := H7.out.base.ei.c1; first | exact this | (simp only [Nat.zero_add] at this; exact this)
  have e2 : w7.cell? ⟨b5 + 1, 2, none⟩ = some (.int .i64 0) := by have := H7.out.base.ei.c2; first | exact this | (simp only [Nat.zero_add] at this; exact this)
  have e3 : w7.cell? ⟨b5 + 1, 3, none⟩ = some (.string ⟨#[]⟩) := by have := H7.out.base.ei.c3; first | exact this | (simp only [Nat.zero_add] at this; exact this)
  have e4 : w7.cell? ⟨b5 + 1, 4, none⟩ = some (.string ⟨#[]⟩) := by have := H7.out.base.ei.c4; first | exact this | (simp only [Nat.zero_add] at this; exact this)
  have e5 : w7.cell? ⟨b5 + 1, 5, none⟩ = some (.slice (some ⟨b5, 0, none⟩) 2 2) := by have := H7.out.base.ei.c5; first | exact this | (simp only [Nat.zero_add] at this; exact this)
  have a0 : w7.cell? ⟨b6 + 1, 0, none⟩ = some (.string ⟨#[97, 110, 100]⟩) := by have := H7.out.bo.c0; first | exact this | (simp only [Nat.zero_add] at this; exact this)
  have a1 : w7.cell? ⟨b6 + 1, 1, none⟩ = some (.int .i64 0) := by have := H7.out.bo.c1; first | exact this | (simp only [Nat.zero_add] at this; exact this)
  have a2 : w7.cell? ⟨b6 + 1, 2, none⟩ = some (.int .i64 0) := by have := H7.out.bo.c2; first | exact this | (simp only [Nat.zero_add] at this; exact this)
  have a3 : w7.cell? ⟨b6 + 1, 3, none⟩ = some (.string ⟨#[]⟩) := by have := H7.out.bo.c3; first | exact this | (simp only [Nat.zero_add] at this; exact this)
  have a4 : w7.cell? ⟨b6 + 1, 4, none⟩ = some (.string ⟨#[]⟩) := by have := H7.out.bo.c4; first | exact this | (simp only [Nat.zero_add] at this; exact this)
  have a5 : w7.cell? ⟨b6 + 1, 5, none⟩ = some (.slice (some ⟨b6, 0, none⟩) 2 2) := by have := H7.out.bo.c5; first | exact this | (simp only [Nat.zero_add] at this; exact this)
  have un0 : w7.cell? ⟨b4 + 1 + 1 + 1, 0, none⟩ = some (.string ⟨#[110, 117, 108, 108]⟩) := by have := H7.out.base.base.nul.c0; first | exact this | (simp only [Nat.zero_add] at this; exact this)
  have un1 : w7.cell? ⟨b4 + 1 + 1 + 1, 1, none⟩ = some (.int .i64 0) := by have := H7.out.base.base.nul.c1; first | exact this | (simp only [Nat.zero_add] at this; exact this)
  have un2 : w7.cell? ⟨b4 + 1 + 1 + 1, 2, none⟩ = some (.int .i64 0) := by have := H7.out.base.base.nul.c2; first | exact this | (simp only [Nat.zero_add] at this; exact this)
  have un3 : w7.cell? ⟨b4 + 1 + 1 + 1, 3, none⟩ = some (.string ⟨#[]⟩) := by have := H7.out.base.base.nul.c3; first | exact this | (simp only [Nat.zero_add] at this; exact this)
  have un4 : w7.cell? ⟨b4 + 1 + 1 + 1, 4, none⟩ = some (.string ⟨#[]⟩) := by have := H7.out.base.base.nul.c4; first | exact this | (simp only [Nat.zero_add] at this; exact this)
  have un5 : w7.cell? ⟨b4 + 1 + 1 + 1, 5, none⟩ = some (.slice (some ⟨b4 + 1 + 1, 0, none⟩) 1 1) := by have := H7.out.base.base.nul.c5; first | exact this | (simp only [Nat.zero_add] at this; exact this)
  have ME : Hid (∀ W z, Below w7.heap.size w7 W → mayT (twoT ⟨#[111, 114]⟩ t (oneT ⟨#[110, 111, 116]⟩ t)) = z → Calls Tryz.prog 12 #[.agg #[.string ⟨#[111, 114]⟩, .int .i64 0, .int .i64 0, .string ⟨#[]⟩, .string ⟨#[]⟩, .slice (some ⟨b5, 0, none⟩) 2 2]] W fun e w' => e = .returned (.bool z) ∧ Below W.heap.size W w') := fun W z hb hz => by subst hz; exact emay_any _ _ (twoT ⟨#[111, 114]⟩ t (oneT ⟨#[110, 111, 116]⟩ t)) _ W (H7.out.base.tre.below hb)
  have MB : Hid (∀ W z, Below w7.heap.size w7 W → mayT (twoT ⟨#[97, 110, 100]⟩ t (oneT ⟨#[110, 111, 116]⟩ t)) = z → Calls Tryz.prog 12 #[.agg #[.string ⟨#[97, 110, 100]⟩, .int .i64 0, .int .i64 0, .string ⟨#[]⟩, .string ⟨#[]⟩, .slice (some ⟨b6, 0, none⟩) 2 2]] W fun e w' => e = .returned (.bool z) ∧ Below W.heap.size W w') := fun W z hb hz => by subst hz; exact emay_any _ _ (twoT ⟨#[97, 110, 100]⟩ t (oneT ⟨#[110, 111, 116]⟩ t)) _ W (H7.out.trb.below hb)
  have MI : Hid (∀ W z, Below w7.heap.size w7 W → mayT (oneT ⟨#[110, 117, 108, 108]⟩ t) = z → Calls Tryz.prog 12 #[.agg #[.string ⟨#[110, 117, 108, 108]⟩, .int .i64 0, .int .i64 0, .string ⟨#[]⟩, .string ⟨#[]⟩, .slice (some ⟨b4 + 1 + 1, 0, none⟩) 1 1]] W fun e w' => e = .returned (.bool z) ∧ Below W.heap.size W w') := fun W z hb hz => by subst hz; exact emay_any _ _ (oneT ⟨#[110, 117, 108, 108]⟩ t) _ W (H7.out.base.base.tru.below hb)
  have l4 : b4 + 1 + 1 + 1 < w7.heap.size := H7.out.base.base.lt
  have l5 : b5 + 1 < w7.heap.size := H7.out.base.lt
  have l6 : b6 + 1 < w7.heap.size := H7.out.lt
  have HP7 : Hid (Below w.heap.size w w7) := H7.out.base.base.base.pl
  have hs7 : w.heap.size ≤ w7.heap.size := Nat.le_of_lt H7.out.base.base.base.lt
  cases hE : mayT (twoT ⟨#[111, 114]⟩ t (oneT ⟨#[110, 111, 116]⟩ t)) with
  | false =>
    go_wp2_with (first
      | (go_at_call 12; refine (ME.out _ false (Below.refl _ _) hE).mono ?_; rintro e w8 ⟨rfl, hb8⟩; have HB8 : Hid (Below w.heap.size w w8) := HP7.out.trans (hb8.mono hs7); clear hb8)
      | (go_at_call 13; refine (awake4_any _ (HL.out.keep HB8.out (Nat.le_refl _))).mono ?_; rintro e w9 ⟨rfl, hb9⟩; have HB9 : Hid (Below w.heap.size w w9) := HB8.out.trans (hb9.mono HB8.out.size); clear hb9))
    go_ret
    exact ⟨rfl, HB9.out⟩
  | true =>
    cases hB : mayT (twoT ⟨#[97, 110, 100]⟩ t (oneT ⟨#[110, 111, 116]⟩ t)) with
    | false =>
      go_wp2_with (first
        | (go_at_call 12; refine (ME.out _ true (Below.refl _ _) hE).mono ?_; rintro e w8 ⟨rfl, hb8⟩; have hc8 := (bcell hb8).1; have M8 := Lib.hid hb8; clear hb8)
        | (go_at_call 12; refine (MB.out _ false M8.out hB).mono ?_; rintro e w9 ⟨rfl, hb9⟩; have hc9 := (bcell (M8.out.trans (hb9.mono M8.out.size))).1; have M9 : Hid (Below w7.heap.size w7 w9) := M8.out.trans (hb9.mono M8.out.size); have HB9 : Hid (Below w.heap.size w w9) := HP7.out.trans (M9.out.mono hs7); clear hb9 hc8)
        | (go_at_call 13; refine (awake4_any _ (HL.out.keep HB9.out (Nat.le_refl _))).mono ?_; rintro e w12 ⟨rfl, hb12⟩; have HB12 : Hid (Below w.heap.size w w12) := HB9.out.trans (hb12.mono HB9.out.size); clear hb12))
      go_ret
      exact ⟨rfl, HB12.out⟩
    | true =>
      cases hI : mayT (oneT ⟨#[110, 117, 108, 108]⟩ t) with
      | false =>
        go_wp2_with (first
          | (go_at_call 12; refine (ME.out _ true (Below.refl _ _) hE).mono ?_; rintro e w8 ⟨rfl, hb8⟩; have hc8 := (bcell hb8).1; have M8 := Lib.hid hb8; clear hb8)
          | (go_at_call 12; refine (MB.out _ true M8.out hB).mono ?_; rintro e w9 ⟨rfl, hb9⟩; have hc9 := (bcell (M8.out.trans (hb9.mono M8.out.size))).1; have M9 : Hid (Below w7.heap.size w7 w9) := M8.out.trans (hb9.mono M8.out.size); have HB9 : Hid (Below w.heap.size w w9) := HP7.out.trans (M9.out.mono hs7); clear hb9 hc8)
          | (go_at_call 12; refine (MI.out _ false M9.out hI).mono ?_; rintro e w10 ⟨rfl, hb10⟩; have M10 : Hid (Below w7.heap.size w7 w10) := M9.out.trans (hb10.mono M9.out.size); have HB10 : Hid (Below w.heap.size w w10) := HP7.out.trans (M10.out.mono hs7); have hc10 := (bcell M10.out).1; clear hb10 hc9)
          | (go_at_call 13; refine (awake4_any _ (HL.out.keep HB10.out (Nat.le_refl _))).mono ?_; rintro e w12 ⟨rfl, hb12⟩; have HB12 : Hid (Below w.heap.size w w12) := HB10.out.trans (hb12.mono HB10.out.size); clear hb12))
        go_ret
        exact ⟨rfl, HB12.out⟩
      | true =>
        go_upto_region 8 with (first
          | (go_at_call 12; refine (ME.out _ true (Below.refl _ _) hE).mono ?_; rintro e w8 ⟨rfl, hb8⟩; have hc8 := (bcell hb8).1; have M8 := Lib.hid hb8; clear hb8)
          | (go_at_call 12; refine (MB.out _ true M8.out hB).mono ?_; rintro e w9 ⟨rfl, hb9⟩; have hc9 := (bcell (M8.out.trans (hb9.mono M8.out.size))).1; have M9 : Hid (Below w7.heap.size w7 w9) := M8.out.trans (hb9.mono M8.out.size); have HB9 : Hid (Below w.heap.size w w9) := HP7.out.trans (M9.out.mono hs7); clear hb9 hc8)
          | (go_at_call 12; refine (MI.out _ true M9.out hI).mono ?_; rintro e w10 ⟨rfl, hb10⟩; have M10 : Hid (Below w7.heap.size w7 w10) := M9.out.trans (hb10.mono M9.out.size); have HB10 : Hid (Below w.heap.size w w10) := HP7.out.trans (M10.out.mono hs7); have hc10 := (bcell M10.out).1; clear hb10 hc9))
        have H10 : Hid (Tru3 w t (.slice B1 p1 q1) A2 n2 cs A3 m3 (fewL row) b4 b5 b6 w10) := H7.out.later M10.out
        clear e0 e1 e2 e3 e4 e5 a0 a1 a2 a3 a4 a5 un0 un1 un2 un3 un4 un5 hc10 l4 l5 l6
        have e0 : w10.cell? ⟨b5 + 1, 0, none⟩ = some (.string ⟨#[111, 114]⟩) := by have := H10.out.base.ei.c0; first | exact this | (simp only [Nat.zero_add] at this; exact this)
        have e1 : w10.cell? ⟨b5 + 1, 1, none⟩ = some (.int .i64 0) := by have := H10.out.base.ei.c1; first | exact this | (simp only [Nat.zero_add] at this; exact this)
        have e2 : w10.cell? ⟨b5 + 1, 2, none⟩ = some (.int .i64 0) := by have := H10.out.base.ei.c2; first | exact this | (simp only [Nat.zero_add] at this; exact this)
        have e3 : w10.cell? ⟨b5 + 1, 3, none⟩ = some (.string ⟨#[]⟩) := by have := H10.out.base.ei.c3; first | exact this | (simp only [Nat.zero_add] at this; exact this)
        have e4 : w10.cell? ⟨b5 + 1, 4, none⟩ = some (.string ⟨#[]⟩) := by have := H10.out.base.ei.c4; first | exact this | (simp only [Nat.zero_add] at this; exact this)
        have e5 : w10.cell? ⟨b5 + 1, 5, none⟩ = some (.slice (some ⟨b5, 0, none⟩) 2 2) := by have := H10.out.base.ei.c5; first | exact this | (simp only [Nat.zero_add] at this; exact this)
        have a0 : w10.cell? ⟨b6 + 1, 0, none⟩ = some (.string ⟨#[97, 110, 100]⟩) := by have := H10.out.bo.c0; first | exact this | (simp only [Nat.zero_add] at this; exact this)
        have a1 : w10.cell? ⟨b6 + 1, 1, none⟩ = some (.int .i64 0) := by have := H10.out.bo.c1; first | exact this | (simp only [Nat.zero_add] at this; exact this)
        have a2 : w10.cell? ⟨b6 + 1, 2, none⟩ = some (.int .i64 0) := by have := H10.out.bo.c2; first | exact this | (simp only [Nat.zero_add] at this; exact this)
        have a3 : w10.cell? ⟨b6 + 1, 3, none⟩ = some (.string ⟨#[]⟩) := by have := H10.out.bo.c3; first | exact this | (simp only [Nat.zero_add] at this; exact this)
        have a4 : w10.cell? ⟨b6 + 1, 4, none⟩ = some (.string ⟨#[]⟩) := by have := H10.out.bo.c4; first | exact this | (simp only [Nat.zero_add] at this; exact this)
        have a5 : w10.cell? ⟨b6 + 1, 5, none⟩ = some (.slice (some ⟨b6, 0, none⟩) 2 2) := by have := H10.out.bo.c5; first | exact this | (simp only [Nat.zero_add] at this; exact this)
        have un0 : w10.cell? ⟨b4 + 1 + 1 + 1, 0, none⟩ = some (.string ⟨#[110, 117, 108, 108]⟩) := by have := H10.out.base.base.nul.c0; first | exact this | (simp only [Nat.zero_add] at this; exact this)
        have un1 : w10.cell? ⟨b4 + 1 + 1 + 1, 1, none⟩ = some (.int .i64 0) := by have := H10.out.base.base.nul.c1; first | exact this | (simp only [Nat.zero_add] at this; exact this)
        have un2 : w10.cell? ⟨b4 + 1 + 1 + 1, 2, none⟩ = some (.int .i64 0) := by have := H10.out.base.base.nul.c2; first | exact this | (simp only [Nat.zero_add] at this; exact this)
        have un3 : w10.cell? ⟨b4 + 1 + 1 + 1, 3, none⟩ = some (.string ⟨#[]⟩) := by have := H10.out.base.base.nul.c3; first | exact this | (simp only [Nat.zero_add] at this; exact this)
        have un4 : w10.cell? ⟨b4 + 1 + 1 + 1, 4, none⟩ = some (.string ⟨#[]⟩) := by have := H10.out.base.base.nul.c4; first | exact this | (simp only [Nat.zero_add] at this; exact this)
        have un5 : w10.cell? ⟨b4 + 1 + 1 + 1, 5, none⟩ = some (.slice (some ⟨b4 + 1 + 1, 0, none⟩) 1 1) := by have := H10.out.base.base.nul.c5; first | exact this | (simp only [Nat.zero_add] at this; exact this)
        have l4 : b4 + 1 + 1 + 1 < w10.heap.size := H10.out.base.base.lt
        have l5 : b5 + 1 < w10.heap.size := H10.out.base.lt
        have l6 : b6 + 1 < w10.heap.size := H10.out.lt
        have HTV := Lib.hid (truths_val cs (fewL row) t hE)
        obtain ⟨x, HX⟩ : ∃ x, Hid (evalF cs (fewL row) 11 t = x) := ⟨_, Lib.hid rfl⟩
        rw [HX.out] at HTV
        obtain ⟨y1, Y1, F1⟩ : ∃ y, Hid (evalF cs (fewL row) 12 (twoT ⟨#[111, 114]⟩ t (oneT ⟨#[110, 111, 116]⟩ t)) = y) ∧ Hid (y = orV x (notV x)) := ⟨_, Lib.hid rfl, HTV.out.1⟩
        obtain ⟨y2, Y2, F2⟩ : ∃ y, Hid (evalF cs (fewL row) 12 (twoT ⟨#[97, 110, 100]⟩ t (oneT ⟨#[110, 111, 116]⟩ t)) = y) ∧ Hid (y = andV x (notV x)) := ⟨_, Lib.hid rfl, HTV.out.2.1⟩
        obtain ⟨y3, Y3, F3⟩ : ∃ y, Hid (evalF cs (fewL row) 12 (oneT ⟨#[110, 117, 108, 108]⟩ t) = y) ∧ Hid (y = isnV x) := ⟨_, Lib.hid rfl, HTV.out.2.2⟩
        have V1 : Hid (∀ W, Below w10.heap.size w10 W → Calls Tryz.prog 14 #[.agg #[.string ⟨#[111, 114]⟩, .int .i64 0, .int .i64 0, .string ⟨#[]⟩, .string ⟨#[]⟩, .slice (some ⟨b5, 0, none⟩) 2 2], .slice A2 n2 c2, .slice A3 m3 c3] W fun e w' => e = .returned (.agg #[.int .i64 y1.k, .int .i64 y1.i, .string y1.s]) ∧ Below W.heap.size W w') := fun W hb => by
          have := eval_yes A2 n2 c2 cs A3 m3 c3 (fewL row) (Nat.le_trans HQ3.out.1 HQ3.out.2) _ 16 (twoT ⟨#[111, 114]⟩ t (oneT ⟨#[110, 111, 116]⟩ t)) (.slice (some ⟨b5, 0, none⟩) 2 2) W (H10.out.base.tre.below hb) hE (H10.out.base.base.base.cols.below hb) ((H10.out.base.base.base.vals.keep hb).more hb.size)
          rw [Y1.out] at this
          exact this
        have V2 : Hid (∀ W, Below w10.heap.size w10 W → Calls Tryz.prog 14 #[.agg #[.string ⟨#[97, 110, 100]⟩, .int .i64 0, .int .i64 0, .string ⟨#[]⟩, .string ⟨#[]⟩, .slice (some ⟨b6, 0, none⟩) 2 2], .slice A2 n2 c2, .slice A3 m3 c3] W fun e w' => e = .returned (.agg #[.int .i64 y2.k, .int .i64 y2.i, .string y2.s]) ∧ Below W.heap.size W w') := fun W hb => by
          have := eval_yes A2 n2 c2 cs A3 m3 c3 (fewL row) (Nat.le_trans HQ3.out.1 HQ3.out.2) _ 16 (twoT ⟨#[97, 110, 100]⟩ t (oneT ⟨#[110, 111, 116]⟩ t)) (.slice (some ⟨b6, 0, none⟩) 2 2) W (H10.out.trb.below hb) hB (H10.out.base.base.base.cols.below hb) ((H10.out.base.base.base.vals.keep hb).more hb.size)
          rw [Y2.out] at this
          exact this
        have V3 : Hid (∀ W, Below w10.heap.size w10 W → Calls Tryz.prog 14 #[.agg #[.string ⟨#[110, 117, 108, 108]⟩, .int .i64 0, .int .i64 0, .string ⟨#[]⟩, .string ⟨#[]⟩, .slice (some ⟨b4 + 1 + 1, 0, none⟩) 1 1], .slice A2 n2 c2, .slice A3 m3 c3] W fun e w' => e = .returned (.agg #[.int .i64 y3.k, .int .i64 y3.i, .string y3.s]) ∧ Below W.heap.size W w') := fun W hb => by
          have := eval_yes A2 n2 c2 cs A3 m3 c3 (fewL row) (Nat.le_trans HQ3.out.1 HQ3.out.2) _ 15 (oneT ⟨#[110, 117, 108, 108]⟩ t) (.slice (some ⟨b4 + 1 + 1, 0, none⟩) 1 1) W (H10.out.base.base.tru.below hb) hI (H10.out.base.base.base.cols.below hb) ((H10.out.base.base.base.vals.keep hb).more hb.size)
          rw [Y3.out] at this
          exact this
        refine detL_begin [.val (.agg #[.string ⟨#[111, 114]⟩, .int .i64 0, .int .i64 0, .string ⟨#[]⟩, .string ⟨#[]⟩, .slice (some ⟨b5, 0, none⟩) 2 2]), .val (.slice A2 n2 c2), .val (.slice A3 m3 c3), .val (.agg #[.int .i64 y1.k, .int .i64 y1.i, .string y1.s]), .val (.agg #[.string ⟨#[97, 110, 100]⟩, .int .i64 0, .int .i64 0, .string ⟨#[]⟩, .string ⟨#[]⟩, .slice (some ⟨b6, 0, none⟩) 2 2]), .val (.slice A2 n2 c2), .val (.slice A3 m3 c3), .val (.agg #[.int .i64 y2.k, .int .i64 y2.i, .string y2.s]), .val (.agg #[.string ⟨#[110, 117, 108, 108]⟩, .int .i64 0, .int .i64 0, .string ⟨#[]⟩, .string ⟨#[]⟩, .slice (some ⟨b4 + 1 + 1, 0, none⟩) 1 1]), .val (.slice A2 n2 c2), .val (.slice A3 m3 c3), .val (.agg #[.int .i64 y3.k, .int .i64 y3.i, .string y3.s]), .rel newR, .rel newR, .rel newR] 15 (by kernel_rfl) ?_
        refine detL_val (by kernel_rfl) (yields_of rfl fun w1 hb1 => ?_) ?_
        · have hc1 := bcellD hb1
          have HBx := Lib.hid hb1
          clear hb1
          go_simp
          exact Det1_same
        simp only [Act.put, List.setIfInBounds_toArray, List.set_cons_zero, List.set_cons_succ]
        refine detL_val (by kernel_rfl) (yields_of rfl fun w1 hb1 => ?_) ?_
        · have hc1 := bcellD hb1
          have HBx := Lib.hid hb1
          clear hb1
          go_simp
          exact Det1_same
        simp only [Act.put, List.setIfInBounds_toArray, List.set_cons_zero, List.set_cons_succ]
        refine detL_val (by kernel_rfl) (yields_of rfl fun w1 hb1 => ?_) ?_
        · have hc1 := bcellD hb1
          have HBx := Lib.hid hb1
          clear hb1
          go_simp
          exact Det1_same
        simp only [Act.put, List.setIfInBounds_toArray, List.set_cons_zero, List.set_cons_succ]
        refine detL_val (by kernel_rfl) (yields_of rfl fun w1 hb1 => ?_) ?_
        · have hc1 := bcellD hb1
          have HBx := Lib.hid hb1
          clear hb1
          go_simp
          exact Det1_enter (V1.out _ ((Below.refl _ _).drew.trans HBx.out))
        simp only [Act.put, List.setIfInBounds_toArray, List.set_cons_zero, List.set_cons_succ]
        refine detL_val (by kernel_rfl) (yields_of rfl fun w1 hb1 => ?_) ?_
        · have hc1 := bcellD hb1
          have HBx := Lib.hid hb1
          clear hb1
          go_simp
          exact Det1_same
        simp only [Act.put, List.setIfInBounds_toArray, List.set_cons_zero, List.set_cons_succ]
        refine detL_val (by kernel_rfl) (yields_of rfl fun w1 hb1 => ?_) ?_
        · have hc1 := bcellD hb1
          have HBx := Lib.hid hb1
          clear hb1
          go_simp
          exact Det1_same
        simp only [Act.put, List.setIfInBounds_toArray, List.set_cons_zero, List.set_cons_succ]
        refine detL_val (by kernel_rfl) (yields_of rfl fun w1 hb1 => ?_) ?_
        · have hc1 := bcellD hb1
          have HBx := Lib.hid hb1
          clear hb1
          go_simp
          exact Det1_same
        simp only [Act.put, List.setIfInBounds_toArray, List.set_cons_zero, List.set_cons_succ]
        refine detL_val (by kernel_rfl) (yields_of rfl fun w1 hb1 => ?_) ?_
        · have hc1 := bcellD hb1
          have HBx := Lib.hid hb1
          clear hb1
          go_simp
          exact Det1_enter (V2.out _ ((Below.refl _ _).drew.trans HBx.out))
        simp only [Act.put, List.setIfInBounds_toArray, List.set_cons_zero, List.set_cons_succ]
        refine detL_val (by kernel_rfl) (yields_of rfl fun w1 hb1 => ?_) ?_
        · have hc1 := bcellD hb1
          have HBx := Lib.hid hb1
          clear hb1
          go_simp
          exact Det1_same
        simp only [Act.put, List.setIfInBounds_toArray, List.set_cons_zero, List.set_cons_succ]
        refine detL_val (by kernel_rfl) (yields_of rfl fun w1 hb1 => ?_) ?_
        · have hc1 := bcellD hb1
          have HBx := Lib.hid hb1
          clear hb1
          go_simp
          exact Det1_same
        simp only [Act.put, List.setIfInBounds_toArray, List.set_cons_zero, List.set_cons_succ]
        refine detL_val (by kernel_rfl) (yields_of rfl fun w1 hb1 => ?_) ?_
        · have hc1 := bcellD hb1
          have HBx := Lib.hid hb1
          clear hb1
          go_simp
          exact Det1_same
        simp only [Act.put, List.setIfInBounds_toArray, List.set_cons_zero, List.set_cons_succ]
        refine detL_val (by kernel_rfl) (yields_of rfl fun w1 hb1 => ?_) ?_
        · have hc1 := bcellD hb1
          have HBx := Lib.hid hb1
          clear hb1
          go_simp
          exact Det1_enter (V3.out _ ((Below.refl _ _).drew.trans HBx.out))
        simp only [Act.put, List.setIfInBounds_toArray, List.set_cons_zero, List.set_cons_succ]
        refine detL_rel (by kernel_rfl) (yields_rel (by rfl) newR_lasting fun w1 hw1 => ?_) ?_
        · clear hw1
          go_simp
          exact newR_made
        rintro v F w1 hw1
        obtain ⟨d0, rfl, rfl, -⟩ := (hw1.ents _ List.mem_cons_self).1
        clear hw1
        simp only [Act.put, List.setIfInBounds_toArray, List.set_cons_zero, List.set_cons_succ]
        refine detL_rel (by kernel_rfl) (yields_rel (by rfl) newR_lasting fun w1 hw1 => ?_) ?_
        · clear hw1
          go_simp
          exact newR_made
        rintro v F w1 hw1
        obtain ⟨d1, rfl, rfl, -⟩ := (hw1.ents _ List.mem_cons_self).1
        clear hw1
        simp only [Act.put, List.setIfInBounds_toArray, List.set_cons_zero, List.set_cons_succ]
        refine detL_rel (by kernel_rfl) (yields_rel (by rfl) newR_lasting fun w1 hw1 => ?_) ?_
        · clear hw1
          go_simp
          exact newR_made
        rintro v F w1 hw1
        obtain ⟨d2, rfl, rfl, -⟩ := (hw1.ents _ List.mem_cons_self).1
        clear hw1
        simp only [Act.put, List.setIfInBounds_toArray, List.set_cons_zero, List.set_cons_succ]
        refine detL_tail rfl (by kernel_rfl) fun w11 hw11 => ?_
        have e2' := hw11.ents _ List.mem_cons_self
        have e1' := hw11.ents _ (List.mem_cons_of_mem _ List.mem_cons_self)
        have e0' := hw11.ents _ (List.mem_cons_of_mem _ (List.mem_cons_of_mem _ List.mem_cons_self))
        have D2 : At3 w11 d2 0 0 ⟨#[]⟩ := (newR_at e2'.1).1
        have D1 : At3 w11 d1 0 0 ⟨#[]⟩ := (newR_at e1'.1).1
        have D0 : At3 w11 d0 0 0 ⟨#[]⟩ := (newR_at e0'.1).1
        have z2 := (newR_at e2'.1).2
        have z1 := (newR_at e1'.1).2
        have z0 := (newR_at e0'.1).2
        have hw10 := HB10.out.size
        have m0 : w.heap.size ≤ d0 := Nat.le_trans hw10 (e0'.2.2 d0 List.mem_cons_self).1
        have m1 : w.heap.size ≤ d1 := Nat.le_trans hw10 (e1'.2.2 d1 List.mem_cons_self).1
        have m2 : w.heap.size ≤ d2 := Nat.le_trans hw10 (e2'.2.2 d2 List.mem_cons_self).1
        have ap := hw11.apart
        simp only [List.pairwise_cons, List.mem_cons, List.not_mem_nil, or_false, forall_eq, forall_eq_or_imp] at ap
        have HB11 : Hid (Below w.heap.size w w11) := HB10.out.drew.trans (hw11.below.mono hw10)
        clear hw11 e0' e1' e2'
        obtain ⟨⟨d21, d20⟩, d10, -⟩ := ap
        have HH := Lib.hid (And.intro D0 (And.intro D1 D2))
        have g0k := D0.k
        have g0i := D0.i
        have g0s := D0.s
        have g1k := D1.k
        have g1i := D1.i
        have g1s := D1.s
        have g2k := D2.k
        have g2i := D2.i
        have g2s := D2.s
        clear D0 D1 D2
        go_upto_region 9 with (fail)
        refine wp_gen (fun W => Below w.heap.size w W ∧ At3 W d0 y1.k y1.i y1.s ∧ At3 W d1 y2.k y2.i y2.s ∧ At3 W d2 y3.k y3.i y3.s) ⟨?_, ?_, ?_, ?_⟩ ?_
        · exact cSet3 m2 (cSet3 m1 (cSet3 m0 HB11.out _ _ _) _ _ _) _ _ _
        · exact At3.set_other' d20 (At3.set_other' d10 (At3.set_same HH.out.1 _ _ _) _ _ _) _ _ _
        · exact At3.set_other' d21 (At3.set_same (At3.set_other' (Ne.symm d10) HH.out.2.1 _ _ _) _ _ _) _ _ _
        · exact At3.set_same (At3.set_other' (Ne.symm d21) (At3.set_other' (Ne.symm d20) HH.out.2.2 _ _ _) _ _ _) _ _ _
        rintro W ⟨hB, G0, G1, G2⟩
        have f1 : decide (saysN y1.k y1.i y1.s = 0) = false := decide_eq_false (by rw [F1.out]; exact or_not x)
        have f2 : decide (saysN y2.k y2.i y2.s = 2) = false := decide_eq_false (by rw [F2.out]; exact and_not x)
        have f3 : y3.k = 3 := by rw [F3.out]; rfl
        have f4 : saysN y3.k y3.i y3.s ≠ 2 ∨ y1 = nulV := by rw [F1.out, F3.out]; exact is_null x
        clear g0k g0i g0s g1k g1i g1s g2k g2i g2s z0 z1 z2 V1 V2 V3 HTV H10 H7 M10 HH hw10 l4 l5 l6 e0 e1 e2 e3 e4 e5 a0 a1 a2 a3 a4 a5 un0 un1 un2 un3 un4 un5 ME MB MI
        have HBW := Lib.hid hB
        clear hB
        have IS1 : Hid (∀ W', Calls Tryz.prog 22 #[.agg #[.int .i64 y1.k, .int .i64 y1.i, .string y1.s], .bool false] W' fun e w' => e = .returned (.bool false) ∧ Below W'.heap.size W' w') := fun W' => by
          have := is_f y1.k y1.i y1.s W'
          rw [f1] at this
          exact this
        have IS2 : Hid (∀ W', Calls Tryz.prog 22 #[.agg #[.int .i64 y2.k, .int .i64 y2.i, .string y2.s], .bool true] W' fun e w' => e = .returned (.bool false) ∧ Below W'.heap.size W' w') := fun W' => by
          have := is_t y2.k y2.i y2.s W'
          rw [f2] at this
          exact this
        cases hz : decide (saysN y3.k y3.i y3.s = 2) with
        | false =>
          have IS3 : Hid (∀ W', Calls Tryz.prog 22 #[.agg #[.int .i64 3, .int .i64 y3.i, .string y3.s], .bool true] W' fun e w' => e = .returned (.bool false) ∧ Below W'.heap.size W' w') := fun W' => by
            have := is_t y3.k y3.i y3.s W'
            rw [hz, f3] at this
            exact this
          have g0k := G0.k
          have g0i := G0.i
          have g0s := G0.s
          have gl0 := G0.lt
          have g1k := G1.k
          have g1i := G1.i
          have g1s := G1.s
          have gl1 := G1.lt
          have g2k := G2.k
          have g2i := G2.i
          have g2s := G2.s
          have gl2 := G2.lt
          clear f1 f2 f4 hz
          rw [f3] at g2k
          go_wp2_with (first
            | (go_at_call 22; (with_reducible refine (IS1.out _).mono ?_); rintro e w13 ⟨rfl, hb13⟩; have N13 : Hid (Below W.heap.size W w13) := hb13; have hc13 := (bcell N13.out).1; clear hb13)
            | (go_at_call 22; (with_reducible refine (IS2.out _).mono ?_); rintro e w14 ⟨rfl, hb14⟩; have N14 : Hid (Below W.heap.size W w14) := N13.out.trans (hb14.mono N13.out.size); have hc14 := (bcell N14.out).1; clear hb14 hc13)
            | (go_at_call 22; (with_reducible refine (IS3.out _).mono ?_); rintro e w15 ⟨rfl, hb15⟩; have N15 : Hid (Below W.heap.size W w15) := N14.out.trans (hb15.mono N14.out.size); have hc15 := (bcell N15.out).1; clear hb15 hc14)
            | (go_at_call 13; refine (awake4_any _ (HL.out.keep (HBW.out.trans (N15.out.mono HBW.out.size)) (Nat.le_refl _))).mono ?_; rintro e w16 ⟨rfl, hb16⟩; have HB16 : Hid (Below w.heap.size w w16) := HBW.out.trans ((N15.out.trans (hb16.mono N15.out.size)).mono HBW.out.size); clear hb16))
          go_ret
          exact ⟨rfl, HB16.out⟩
        | true =>
          have IS3 : Hid (∀ W', Calls Tryz.prog 22 #[.agg #[.int .i64 3, .int .i64 y3.i, .string y3.s], .bool true] W' fun e w' => e = .returned (.bool true) ∧ Below W'.heap.size W' w') := fun W' => by
            have := is_t y3.k y3.i y3.s W'
            rw [hz, f3] at this
            exact this
          have hy : y1 = nulV := f4.resolve_left (fun h => h (of_decide_eq_true hz))
          have g0k := G0.k
          have g0i := G0.i
          have g0s := G0.s
          have gl0 := G0.lt
          have g1k := G1.k
          have g1i := G1.i
          have g1s := G1.s
          have gl1 := G1.lt
          have g2k := G2.k
          have g2i := G2.i
          have g2s := G2.s
          have gl2 := G2.lt
          clear f1 f2 f4 hz
          rw [f3] at g2k
          rw [hy] at g0k g0i g0s IS1
          simp only [nulV] at g0k g0i g0s IS1
          go_wp2_with (first
            | (go_at_call 22; (with_reducible refine (IS1.out _).mono ?_); rintro e w13 ⟨rfl, hb13⟩; have N13 : Hid (Below W.heap.size W w13) := hb13; have hc13 := (bcell N13.out).1; clear hb13)
            | (go_at_call 22; (with_reducible refine (IS2.out _).mono ?_); rintro e w14 ⟨rfl, hb14⟩; have N14 : Hid (Below W.heap.size W w14) := N13.out.trans (hb14.mono N13.out.size); have hc14 := (bcell N14.out).1; clear hb14 hc13)
            | (go_at_call 22; (with_reducible refine (IS3.out _).mono ?_); rintro e w15 ⟨rfl, hb15⟩; have N15 : Hid (Below W.heap.size W w15) := N14.out.trans (hb15.mono N14.out.size); have hc15 := (bcell N15.out).1; clear hb15 hc14)
            | (go_at_call 13; refine (awake4_any _ (HL.out.keep (HBW.out.trans (N15.out.mono HBW.out.size)) (Nat.le_refl _))).mono ?_; rintro e w16 ⟨rfl, hb16⟩; have HB16 : Hid (Below w.heap.size w w16) := HBW.out.trans ((N15.out.trans (hb16.mono N15.out.size)).mono HBW.out.size); clear hb16))
          go_ret
          exact ⟨rfl, HB16.out⟩
end Go.Proofs.YtmgcmiflbjhakaaGreatDoor

/- From a law's contract to its row: what is drawn of the condition on the listed variables, and of the world's shape. -/
namespace Go.Proofs.YtmgcmiflbjhakaaGreatDoor
open Go.ChangeShapes Go.WideShapes Go.ChangeAt Go.RowKit

theorem own : ownKnob Tryz.prog.godebug = none := by kernel_rfl

/-- The wrap that hands the contract the condition on the listed variables, the reach and the world's shape. -/
theorem returns_laid_shaped {H : Type} {enc : TypeId × Value → H} {a : Assume} {C : Checked} {os : Os} {f : FuncId} {fn : Func} {s : ChangeSpec} {conds : List PathCond} {apart fresh handsOn again : Bool} {X : World → Array Value → Prop}
    (hX : ∀ (w w' : World) (args : Array Value), w.heap = w'.heap → X w args → X w' args)
    (hown : ownKnob C.prog.godebug = none) (started : os.Started) (noInit : C.prog.inits.idxOf? f = none) (hfn : C.prog.funcs[f]? = some fn)
    (witness : ∃ (w : World) (tape : Tape) (i : Input), w.os = os ∧ (w.forCall tape i).Shaped C.prog ∧ i.vars = [] ∧ Input.okWide C.prog (w.forCall tape i) .any w.heap.size f i ∧
      ((s.pre enc C.prog fn conds apart (w.forCall tape i).memory i.args ∧ X (w.forCall tape i).memory i.args) ∧ sizedMet enc C.prog fn (OpenSpec.ofChange s) apart (w.forCall tape i).memory i.args) ∧ a.holds C.prog (lone (Frame.enter C.prog f i.args .normal) [] (w.forCall tape i)))
    (contract : ∀ (W : World) (base : Nat) (args : Array Value) (ds gs : List (DataW H)) (before : List MemPlace),
      (∀ (j : Nat) t v, fn.params[j]? = some t → args[j]? = some v → Value.okWide C.prog W .any base t v) →
      DataW.Whole enc C.prog fn.params.toList s.vars apart W args.toList ds gs before →
      X W args → W.ShapedOpen C.prog →
      Calls C.prog f args W fun e W' => ∃ v, e = .returned v ∧ s.post enc C.prog fn apart fresh handsOn again W args v W') :
    ReturnsInHanded a C os f .any (fun w args => (s.pre enc C.prog fn conds apart w args ∧ X w args) ∧ sizedMet enc C.prog fn (OpenSpec.ofChange s) apart w args) (s.post enc C.prog fn apart fresh handsOn again) := by
  refine returnsInHanded_of_calls hown started noInit witness ?_
  intro w tape i _ hsh _ hok hpre hholds
  obtain ⟨_, _, _, fn', hfn', _, _, _, _, hval⟩ := hok
  have e : fn' = fn := Option.some.inj (hfn'.symm.trans hfn)
  subst e
  obtain ⟨⟨⟨ds, gs, before, hw, hc⟩, hx⟩, hz⟩ := hpre
  have hw' := DataW.Whole.of_heap (w' := w.forCall tape i) (by rfl) hw
  refine (contract (w.forCall tape i) w.heap.size i.args ds gs before hval hw' (hX _ _ _ (by rfl) hx) hsh).mono fun e W' ⟨v, he, hp⟩ => ?_
  subst he
  exact ChangeSpec.post_blind hp

/-- internal/bytealg.MaxLen holds some int. -/
theorem maxLen_cell {W : World} (h : W.ShapedOpen Tryz.prog) : ∃ m, W.cell? ⟨1, 0, none⟩ = some (.int .i64 m) :=
  cell_of_shapedOpen_int h (of_decide_eq_true (by kernel_rfl)) (show ((begin Tryz.prog (fun _ _ => 0) default).world.heap[1]?).bind Obj.row? = some (#[.int .i64 0], 3) by kernel_rfl) rfl (by kernel_rfl) (by kernel_rfl) Tryz.underlying3

theorem cellsV : Tryz.prog.cellsOf 23 = 3 := by kernel_rfl
set_option maxRecDepth 100000 in
/-- A value that comes in. -/
theorem open_value {H : Type} {enc : TypeId × Value → H} {W : World} {r : Reach} {b0 base : Nat} {spare : Nat → Bool} {held : Bool} {v : Value} {d : DataW H} {p : List MemPlace}
    (hv : Value.okWide Tryz.prog W r b0 23 v) (h : DataW.Trod enc Tryz.prog W base spare held 23 v d p) :
    ∃ (k i : Int) (s : ByteArray), v = .agg #[.int .i64 k, .int .i64 i, .string s] ∧ d = .agg [.lit (.int .i64 k), .lit (.int .i64 i), .lit (.string s.data.toList)] ∧ p = [] ∧ (Lit.int .i64 k).wf = true ∧ (Lit.int .i64 i).wf = true ∧ s.size ≤ maxLen := by
  obtain ⟨c0, c1, c2, y0, y1, y2, n, rfl, rfl, rfl, h0, h1, h2⟩ := Go.Joins.open_agg3 Tryz.underlying23 (by kernel_rfl) cellsV hv h
  obtain ⟨k, e0, rfl, wk⟩ := DataW.trod_int Tryz.underlying3 h0
  obtain ⟨i, e1, rfl, wi⟩ := DataW.trod_int Tryz.underlying2 h1
  obtain ⟨s, e2, rfl, ws⟩ := DataW.trod_string Tryz.underlying9 h2
  simp at e0 e1 e2
  subst e0 e1 e2
  exact ⟨k, i, s, rfl, rfl, rfl, wk, wi, ws⟩
/-- It reads so in whatever world. -/
theorem shut_value {H : Type} {enc : TypeId × Value → H} {W : World} {base : Nat} {spare : Nat → Bool} {held : Bool} {k i : Int} {s : ByteArray} (wk : (Lit.int .i64 k).wf = true) (wi : (Lit.int .i64 i).wf = true) (ws : s.size ≤ maxLen) :
    DataW.Trod enc Tryz.prog W base spare held 23 (.agg #[.int .i64 k, .int .i64 i, .string s]) (.agg [.lit (.int .i64 k), .lit (.int .i64 i), .lit (.string s.data.toList)]) [] :=
  Go.Joins.shut_agg3 (y0 := (.lit (.int .i64 k), [])) (y1 := (.lit (.int .i64 i), [])) (y2 := (.lit (.string s.data.toList), [])) Tryz.underlying23 (by kernel_rfl) cellsV
    ⟨1, by simp [DataW.trod, Tryz.underlying3, wk]⟩ ⟨1, by simp [DataW.trod, Tryz.underlying2, wi]⟩ ⟨1, by simp [DataW.trod, Tryz.underlying9, ws]⟩
end Go.Proofs.YtmgcmiflbjhakaaGreatDoor

/- Expressions, columns and rows of values that come in. -/
namespace Go.Proofs.YtmgcmiflbjhakaaGreatDoor
open Go.ChangeShapes Go.WideShapes Go.ChangeAt Go.RowKit Go.Deep

theorem cellsE : Tryz.prog.cellsOf 26 = 6 := by kernel_rfl
theorem cellsCl : Tryz.prog.cellsOf 67 = 3 := by kernel_rfl
theorem cells1s : Tryz.prog.cellsOf 9 = 1 := by kernel_rfl
theorem cells1L : Tryz.prog.cellsOf 24 = 1 := by kernel_rfl
theorem addE (a : Addr) (j : Nat) (hj : j ≠ 0) : a.add j = ⟨a.block, a.off + j, none⟩ := by unfold Addr.add; rw [if_neg hj]

/-- A slice of expressions that comes in, so deep: each part's cells, below block B. -/
def InL (W : World) (B : Nat) : Nat → Value → Prop
  | 0, v => ∃ A n cap, v = .slice A n cap ∧ n ≤ maxLen
  | d + 1, v => ∃ A n cap, v = .slice A n cap ∧ n ≤ maxLen ∧ ∀ j, j < n → ∃ a t u, A = some a ∧ a.block < B ∧ ExC W (a.add (j * 6)) t u ∧ t.op.size ≤ maxLen ∧ t.x.s.size ≤ maxLen ∧ t.s.size ≤ maxLen ∧ InL W B d u
theorem InL.form {W : World} {B : Nat} : ∀ {d : Nat} {v : Value}, InL W B d v → ∃ A n cap, v = .slice A n cap ∧ n ≤ maxLen
  | 0, _, h => h
  | _ + 1, _, ⟨A, n, cap, h, hn, _⟩ => ⟨A, n, cap, h, hn⟩
theorem InL.keep {W W' : World} {B : Nat} (hb : Below B W W') : ∀ {d : Nat} {v : Value}, InL W B d v → InL W' B d v
  | 0, _, h => h
  | _ + 1, _, ⟨A, n, cap, h, hn, hj⟩ => ⟨A, n, cap, h, hn, fun j hjn => by
    obtain ⟨a, t, u, e, hB, hc, h1, h2, h3, hr⟩ := hj j hjn
    exact ⟨a, t, u, e, hB, hc.keep (by rw [add_block]; exact hb.block _ hB), h1, h2, h3, InL.keep hb hr⟩⟩
theorem InL.more {W : World} {B B' : Nat} (hB' : B ≤ B') : ∀ {d : Nat} {v : Value}, InL W B d v → InL W B' d v
  | 0, _, h => h
  | _ + 1, _, ⟨A, n, cap, h, hn, hj⟩ => ⟨A, n, cap, h, hn, fun j hjn => by
    obtain ⟨a, t, u, e, hB, hc, h1, h2, h3, hr⟩ := hj j hjn
    exact ⟨a, t, u, e, Nat.lt_of_lt_of_le hB hB', hc, h1, h2, h3, InL.more hB' hr⟩⟩

theorem six {α : Type} {l : List α} (h : l.length = 6) : ∃ a b c d e f, l = [a, b, c, d, e, f] := by
  match l, h with
  | [a, b, c, d, e, f], _ => exact ⟨a, b, c, d, e, f, rfl⟩

section
variable {H : Type} {enc : TypeId × Value → H} {w : World} {base : Nat} {spare : Nat → Bool} {held : Bool}
set_option maxRecDepth 100000 in
/-- The six cells of an expression that reads. -/
theorem open_cells {fuel : Nat} {cs : List Value} {x : DataW H × List MemPlace} (h : DataW.trod enc Tryz.prog w base spare held fuel 26 cs = some x) :
    ∃ (op : ByteArray) (k i : Int) (vs s : ByteArray) (u : Value) (n : Nat) (y : DataW H × List MemPlace), cs = [.string op, .int .i64 k, .int .i64 i, .string vs, .string s, u] ∧ op.size ≤ maxLen ∧ vs.size ≤ maxLen ∧ s.size ≤ maxLen ∧ DataW.trod enc Tryz.prog w base spare held n 24 [u] = some y := by
  obtain ⟨y0, y1, y2, y3, n, _, hl, h0, h1, h2, h3⟩ := Go.Joins.trod_struct4 Tryz.underlying26 h
  rw [cellsE] at hl
  obtain ⟨c0, c1, c2, c3, c4, c5, rfl⟩ := six hl
  dsimp only at h0 h1 h2 h3
  rw [cells1s] at h0 h2
  rw [cellsV] at h1
  rw [cells1L] at h3
  simp only [List.drop_zero, List.drop_succ_cons, List.take_succ_cons, List.take_zero] at h0 h1 h2 h3
  obtain ⟨op, e0, _, s0⟩ := DataW.trod_string Tryz.underlying9 h0
  obtain ⟨s, e2, _, s2⟩ := DataW.trod_string Tryz.underlying9 h2
  obtain ⟨z0, z1, z2, m, _, _, g0, g1, g2⟩ := Go.Deep.trod_struct3 Tryz.underlying23 h1
  dsimp only at g0 g1 g2
  rw [show Tryz.prog.cellsOf 3 = 1 by kernel_rfl] at g0
  rw [show Tryz.prog.cellsOf 2 = 1 by kernel_rfl] at g1
  rw [cells1s] at g2
  simp only [List.drop_zero, List.drop_succ_cons, List.take_succ_cons, List.take_zero] at g0 g1 g2
  obtain ⟨k, e3, _, _⟩ := DataW.trod_int Tryz.underlying3 g0
  obtain ⟨i, e4, _, _⟩ := DataW.trod_int Tryz.underlying2 g1
  obtain ⟨vs, e5, _, s5⟩ := DataW.trod_string Tryz.underlying9 g2
  simp only [List.cons.injEq, and_true] at e0 e2 e3 e4 e5
  subst e0 e2 e3 e4 e5
  exact ⟨_, _, _, _, _, _, _, _, rfl, s0, s5, s2, h3⟩

set_option maxRecDepth 100000 in
theorem open_tree : ∀ (d : Nat) {u : Value} {fuel : Nat} {y : DataW H × List MemPlace}, DataW.trod enc Tryz.prog w base spare held fuel 24 [u] = some y → InL w w.heap.size d u := by
  intro d
  induction d with
  | zero =>
    intro u fuel y h
    rcases Go.Deep.open_slice Tryz.underlying24 h with h0 | ⟨a, len, cap, m, n, D, Pl, hcs, _, hl, hm, _⟩
    · have := h0.1
      simp only [List.cons.injEq, and_true] at this
      subst this
      exact ⟨none, 0, 0, rfl, by unfold maxLen; omega⟩
    · simp only [List.cons.injEq, and_true] at hcs
      subst hcs
      exact ⟨_, _, _, rfl, Nat.le_trans hl hm⟩
  | succ d ih =>
    intro u fuel y h
    rcases Go.Deep.open_slice Tryz.underlying24 h with h0 | ⟨a, len, cap, m, n, D, Pl, hcs, hb, hl, hm, hmm, _, hi⟩
    · have := h0.1
      simp only [List.cons.injEq, and_true] at this
      subst this
      exact ⟨none, 0, 0, rfl, by unfold maxLen; omega, fun j hj => absurd hj (by omega)⟩
    · simp only [List.cons.injEq, and_true] at hcs
      subst hcs
      refine ⟨_, _, _, rfl, Nat.le_trans hl hm, fun j hj => ?_⟩
      have hlm : len ≤ m := by rw [hmm]; split <;> omega
      obtain ⟨cs', hc, ht⟩ := hi j (by omega)
      rw [cellsE] at hc
      obtain ⟨op, k, i, vs, s, u', n', y', rfl, s0, s1, s2, hr⟩ := open_cells ht
      obtain ⟨_, _, hat⟩ := World.cells?_some hc
      have c0 := hat 0 (by omega)
      have hlt := World.block_lt_of_cell? w _ c0
      rw [add_block, add_block] at hlt
      refine ⟨a, .mk op ⟨k, i, vs⟩ s [], u', rfl, hlt, ⟨c0, ?_, ?_, ?_, ?_, ?_⟩, s0, s1, s2, ih hr⟩
      · have := hat 1 (by omega); rw [addE _ _ (by omega)] at this; exact this
      · have := hat 2 (by omega); rw [addE _ _ (by omega)] at this; exact this
      · have := hat 3 (by omega); rw [addE _ _ (by omega)] at this; exact this
      · have := hat 4 (by omega); rw [addE _ _ (by omega)] at this; exact this
      · have := hat 5 (by omega); rw [addE _ _ (by omega)] at this; exact this
set_option maxRecDepth 100000 in
/-- An expression that comes in. -/
theorem open_expr {r : Reach} {b0 : Nat} {v : Value} {d : DataW H} {p : List MemPlace} (hv : Value.okWide Tryz.prog w r b0 26 v) (h : DataW.Trod enc Tryz.prog w base spare held 26 v d p) :
    ∃ (op : ByteArray) (k i : Int) (vs s : ByteArray) (u : Value), v = .agg #[.string op, .int .i64 k, .int .i64 i, .string vs, .string s, u] ∧ op.size ≤ maxLen ∧ vs.size ≤ maxLen ∧ s.size ≤ maxLen ∧ ∀ d, InL w w.heap.size d u := by
  obtain ⟨cs, rfl, _⟩ := okWide_struct Tryz.underlying26 hv
  obtain ⟨fuel, hf⟩ := h
  obtain ⟨op, k, i, vs, s, u, n, y, e, s0, s1, s2, hr⟩ := open_cells hf
  refine ⟨op, k, i, vs, s, u, ?_, s0, s1, s2, fun d => open_tree d hr⟩
  obtain ⟨l⟩ := cs
  have : l = [.string op, .int .i64 k, .int .i64 i, .string vs, .string s, u] := by simpa [Value.cells] using e
  rw [this]

theorem slice_fieldsE {t e : TypeId} {P : Program} {fs : Array Field} {fuel : Nat} {cs : List Value} {x : DataW H × List MemPlace} (ht : P.underlying t = some (.slice e)) (he : P.underlying e = some (.struct fs))
    (hone : oneCellFields P fs = true) (hC : P.cellsOf e = fs.size) (h : DataW.trod enc P w base spare held fuel t cs = some x) :
    (cs = [.slice none 0 0]) ∨
    ∃ (a : Addr) (len cap : Nat), cs = [.slice (some a) len cap] ∧ len ≤ cap ∧ cap ≤ maxLen ∧
      ∀ i, i < len → ∀ (j : Nat) (f : Field), fs[j]? = some f → ∃ (v : Value) (y : DataW H × List MemPlace) (n : Nat), w.cell? ((a.add (i * fs.size)).add j) = some v ∧ DataW.trod enc P w base spare held n f.type [v] = some y := by
  rcases Go.Deep.open_slice ht h with h0 | ⟨a, len, cap, m, n, D, Pl, hcs, hb, hl, hm, hmm, hx, hi⟩
  · exact .inl h0.1
  · refine .inr ⟨a, len, cap, hcs, hl, hm, fun i hil j f hj => ?_⟩
    have hlm : len ≤ m := by rw [hmm]; split <;> omega
    obtain ⟨cs', hc, ht'⟩ := hi i (by omega)
    rw [hC] at hc
    obtain ⟨ys, n', hn', hy, hlen, hyl, hf⟩ := DataW.trod_struct he ht'
    obtain ⟨_, hcl, hat⟩ := World.cells?_some hc
    obtain ⟨ho, hk⟩ := hone_of hone j f hj
    have hjl : j < fs.size := (Array.getElem?_eq_some_iff.1 hj).1
    have hcell := hat j hjl
    have hv : cs'[j]? = some (cs'[j]'(by omega)) := List.getElem?_eq_getElem (by omega)
    have h1 := hf j f hj
    rw [ho, hk] at h1
    have hone' : (cs'.drop j).take 1 = [cs'[j]'(by omega)] := by
      rw [List.drop_eq_getElem_cons (by omega)]
      rfl
    rw [hone'] at h1
    have hys : ys[j]? = some (ys[j]'(by omega)) := List.getElem?_eq_getElem (by omega)
    exact ⟨_, _, _, by rw [hcell, hv], h1.trans hys⟩

set_option maxRecDepth 100000 in
/-- A row of columns that comes in. -/
theorem open_crow {r : Reach} {b0 : Nat} {v : Value} {d : DataW H} {p : List MemPlace}
    (hv : Value.okWide Tryz.prog w r b0 27 v) (h : DataW.Trod enc Tryz.prog w base spare held 27 v d p) :
    ∃ (A : Option Addr) (n cap : Nat) (l : List Cl), v = .slice A n cap ∧ ColS w A n l ∧ ∀ x ∈ l, x.n.size ≤ maxLen := by
  obtain ⟨A, n, cap, rfl⟩ := okWide_slice Tryz.underlying27 hv
  obtain ⟨fuel, hf⟩ := h
  rcases slice_fieldsE Tryz.underlying27 Tryz.underlying67 (by kernel_rfl) cellsCl hf with h0 | ⟨a, len, cap', h1, h2, h3, h4⟩
  · have e : Value.slice A n cap = .slice none 0 0 := by simpa [Value.cells] using h0
    injection e with e1 e2 e3
    subst e1 e2 e3
    exact ⟨none, 0, 0, [], rfl, ⟨rfl, by unfold maxLen; omega, fun j hj => absurd hj (by simp)⟩, (fun x hx => by cases hx)⟩
  · have e : Value.slice A n cap = .slice (some a) len cap' := by simpa [Value.cells] using h1
    injection e with e1 e2 e3
    subst e1 e2 e3
    have each : ∀ i, i < n → ∃ x : Cl, ClAt w (a.add (i * 3)) x ∧ x.n.size ≤ maxLen := by
      intro i hi
      obtain ⟨v0, y0, n0, c0, t0⟩ := h4 i hi 0 _ rfl
      obtain ⟨v1, y1, n1, c1, t1⟩ := h4 i hi 1 _ rfl
      obtain ⟨v2, y2, n2, c2, t2⟩ := h4 i hi 2 _ rfl
      obtain ⟨s, e0, _, ws⟩ := DataW.trod_string Tryz.underlying9 t0
      obtain ⟨k, e1, _, wk⟩ := DataW.trod_int Tryz.underlying3 t1
      obtain ⟨b, e2, _⟩ := DataW.trod_bool Tryz.underlying4 t2
      simp at e0 e1 e2
      subst e0 e1 e2
      exact ⟨⟨s, k, b⟩, ⟨c0, c1, c2⟩, ws⟩
    have hall : ∃ l : List Cl, l.length = n ∧ ∀ j (hj : j < l.length), ClAt w (a.add (j * 3)) l[j] ∧ l[j].n.size ≤ maxLen := by
      refine ⟨(List.range n).map fun i => if h : i < n then Classical.choose (each i h) else ⟨⟨#[]⟩, 0, false⟩, by simp, fun j hj => ?_⟩
      have hj' : j < n := by simpa using hj
      rw [List.getElem_map, List.getElem_range, dif_pos hj']
      exact Classical.choose_spec (each j hj')
    obtain ⟨l, hl, hat⟩ := hall
    refine ⟨some a, n, cap, l, rfl, ⟨hl, by omega, fun j hj => ⟨a, rfl, ?_⟩⟩, fun x hx => ?_⟩
    · exact (hat j (by omega)).1
    · obtain ⟨j, hj, rfl⟩ := List.getElem_of_mem hx
      exact (hat j hj).2
set_option maxRecDepth 100000 in
/-- A row of values that comes in. -/
theorem open_vrow {r : Reach} {b0 : Nat} {v : Value} {d : DataW H} {p : List MemPlace}
    (hv : Value.okWide Tryz.prog w r b0 28 v) (h : DataW.Trod enc Tryz.prog w base spare held 28 v d p) :
    ∃ (A : Option Addr) (n cap : Nat) (l : List Vl), v = .slice A n cap ∧ n ≤ maxLen ∧ Vals w w.heap.size A n l ∧ ∀ x ∈ l, x.s.size ≤ maxLen := by
  obtain ⟨A, n, cap, rfl⟩ := okWide_slice Tryz.underlying28 hv
  obtain ⟨fuel, hf⟩ := h
  rcases slice_fieldsE Tryz.underlying28 Tryz.underlying23 (by kernel_rfl) cellsV hf with h0 | ⟨a, len, cap', h1, h2, h3, h4⟩
  · have e : Value.slice A n cap = .slice none 0 0 := by simpa [Value.cells] using h0
    injection e with e1 e2 e3
    subst e1 e2 e3
    exact ⟨none, 0, 0, [], rfl, by unfold maxLen; omega, ⟨rfl, fun j hj => absurd hj (by simp)⟩, (fun x hx => by cases hx)⟩
  · have e : Value.slice A n cap = .slice (some a) len cap' := by simpa [Value.cells] using h1
    injection e with e1 e2 e3
    subst e1 e2 e3
    have each : ∀ i, i < n → ∃ x : Vl, VlAt w (a.add (i * 3)) x ∧ x.s.size ≤ maxLen := by
      intro i hi
      obtain ⟨v0, y0, n0, c0, t0⟩ := h4 i hi 0 _ rfl
      obtain ⟨v1, y1, n1, c1, t1⟩ := h4 i hi 1 _ rfl
      obtain ⟨v2, y2, n2, c2, t2⟩ := h4 i hi 2 _ rfl
      obtain ⟨k, e0, _, wk⟩ := DataW.trod_int Tryz.underlying3 t0
      obtain ⟨j, e1, _, wi⟩ := DataW.trod_int Tryz.underlying2 t1
      obtain ⟨s, e2, _, ws⟩ := DataW.trod_string Tryz.underlying9 t2
      simp at e0 e1 e2
      subst e0 e1 e2
      exact ⟨⟨k, j, s⟩, ⟨c0, c1, c2⟩, ws⟩
    have hall : ∃ l : List Vl, l.length = n ∧ ∀ j (hj : j < l.length), VlAt w (a.add (j * 3)) l[j] ∧ l[j].s.size ≤ maxLen := by
      refine ⟨(List.range n).map fun i => if h : i < n then Classical.choose (each i h) else ⟨0, 0, ⟨#[]⟩⟩, by simp, fun j hj => ?_⟩
      have hj' : j < n := by simpa using hj
      rw [List.getElem_map, List.getElem_range, dif_pos hj']
      exact Classical.choose_spec (each j hj')
    obtain ⟨l, hl, hat⟩ := hall
    refine ⟨some a, n, cap, l, rfl, by omega, ⟨hl, fun j hj => ⟨a, rfl, (hat j hj).1, ?_⟩⟩, fun x hx => ?_⟩
    · have := World.block_lt_of_cell? w _ (hat j hj).1.k
      rwa [add_block] at this
    · obtain ⟨j, hj, rfl⟩ := List.getElem_of_mem hx
      exact (hat j hj).2
end
theorem laidOutB_E : laidOutB Tryz.prog = true := by kernel_rfl
theorem readsE : Tryz.prog.readableRec 26 = true := by kernel_rfl
theorem rowE : 26 < Tryz.prog.types.size := of_decide_eq_true (by kernel_rfl)
theorem readsC : Tryz.prog.readableRec 27 = true := by kernel_rfl
theorem rowC : 27 < Tryz.prog.types.size := of_decide_eq_true (by kernel_rfl)
theorem readsV : Tryz.prog.readableRec 28 = true := by kernel_rfl
theorem rowV : 28 < Tryz.prog.types.size := of_decide_eq_true (by kernel_rfl)
end Go.Proofs.YtmgcmiflbjhakaaGreatDoor
