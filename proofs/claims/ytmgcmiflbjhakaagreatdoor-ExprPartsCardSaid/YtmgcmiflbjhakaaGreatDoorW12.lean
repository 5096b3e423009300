import Derived.Test.YtmgcmiflbjhakaaGreatDoorW11
import Derived.Test.YtmgcmiflbjhakaaGreatDoorW09
import Derived.Lib.SmallJoins
import Derived.Laws.OwnMore
import Derived.Lib.AppendStr
import Derived.Lib.UnsafeStr
import Derived.Lib.Builder
import Derived.Lib.Strings
import Derived.Lib.Slices
import Derived.Lib.Walk
import Derived.Laws.Externs
import Derived.Shelf.Strings.Builder2
import Derived.Ground.GgwProg
import Derived.Test.YtmgcmiflbjhakaaGreatDoorProg
import Derived.Shelf.Lays
import Derived.Test.YtmgcmiflbjhakaaGreatDoorW05

/- The parser: a sum, an and, an or, a not. -/
namespace Go.Proofs.YtmgcmiflbjhakaaGreatDoor
open Go.RowKit Go.Lib

set_option maxRecDepth 100000 in
set_option maxHeartbeats 4000000 in
theorem psum_any {N : Nat} (g : Nat) (A : Option Addr) (c : Nat) (l : List Tn) (at' ask : Nat) (failed : Bool) (t t3 : Ex) (at2 at3 : Nat) (failed2 failed3 : Bool) {N2 : Nat} (w : World) (hz : Pz w g A c l at' ask failed)
    (h1 : ∀ W, Pz W g A c l at' ask failed → Calls Tryz.prog 112 #[.pointer (some ⟨g, 0, none⟩)] W (Res W g A c l N (fun _ => False) t at2 ask failed2))
    (h2 : ∀ (Q : Nat → Prop) (W : World) (u : Value), (∀ x, Q x → g < x) → Pz W g A c l at2 ask failed2 → Tr W Q N t u → Calls Tryz.prog 178 #[.pointer (some ⟨g, 0, none⟩), EVt t u] W (Res W g A c l N2 Q t3 at3 ask failed3)) :
    Calls Tryz.prog 180 #[.pointer (some ⟨g, 0, none⟩)] w (Res w g A c l N2 (fun _ => False) t3 at3 ask failed3) := by
  have HZ := Lib.hid hz
  have hgl := hz.lt
  have HX := Lib.hid (And.intro h1 h2)
  clear hz h1 h2
  have hne0 : ¬ w.heap.size = g := by omega
  go_enter Tryz.func180, Tryz.ntmps180
  go_wp2_with (first
    | (go_at_call 112; refine (HX.out.1 _ (HZ.out.alloc _)).mono ?_; rintro e w1 ⟨u1, rfl, ht1, hp1, hg1⟩; obtain ⟨B1, q1, rfl, _⟩ := ht1.form; unfold EVt; have hc1 := (gcell hg1).1; have hf1 := (gcell hg1).2; have hy1 := hg1.size; (try simp at hy1); have hz1_0 : w.heap.size < w1.heap.size := (by omega); have HP1 := Lib.hid (And.intro ht1 (And.intro hp1 hg1)); clear ht1 hp1 hg1; have HG1 : Hid (w.grownBy w1 (some g)) := grow_trans (grow_alloc _ _ _) HP1.out.2.2)
    | (go_at_call 178; refine (HX.out.2 (fun b => w.heap.size < b) _ _ (fun x (h : w.heap.size < x) => by omega) HP1.out.2.1 (HP1.out.1.keep (fun _ _ _ => rfl) (fun b h _ => h.elim False.elim (fun h => by simp at h; omega)))).mono ?_; rintro e w2 ⟨u2, rfl, ht2, hp2, hg2⟩; obtain ⟨B2, q2, rfl, _⟩ := ht2.form; unfold EVt; have hc2 := (gcell hg2).1; have hf2 := (gcell hg2).2; have hy2 := hg2.size; (try simp at hy2); have hz2_0 : w.heap.size < w2.heap.size := (by omega); have HP2 := Lib.hid (And.intro ht2 (And.intro hp2 hg2)); clear ht2 hp2 hg2))
  refine bodyPost_ret (v := .agg #[.string t3.op, .int .i64 t3.x.k, .int .i64 t3.x.i, .string t3.x.s, .string t3.s, .slice B2 t3.l.length q2]) (by simp [results, Tryz.results180, go_sem, *]) rfl ?_
  exact Res.store (Q := (fun _ => False)) (R := fun b => w.heap.size < b) (HP2.out.1.keep (fun _ _ _ => rfl) (fun b h _ => h.elim id (fun h => by omega))) HP2.out.2.1 (grow_trans HG1.out HP2.out.2.2) (b := w.heap.size) (Nat.le_refl _) hgl (by omega) (fun x h _ => .inr (Nat.le_of_lt h)) _ _ _ _ _ _

set_option maxRecDepth 100000 in
set_option maxHeartbeats 4000000 in
theorem pand_any {N : Nat} (g : Nat) (A : Option Addr) (c : Nat) (l : List Tn) (at' ask : Nat) (failed : Bool) (t t3 : Ex) (at2 at3 : Nat) (failed2 failed3 : Bool) {N2 : Nat} (w : World) (hz : Pz w g A c l at' ask failed)
    (h1 : ∀ W, Pz W g A c l at' ask failed → Calls Tryz.prog 66 #[.pointer (some ⟨g, 0, none⟩)] W (Res W g A c l N (fun _ => False) t at2 ask failed2))
    (h2 : ∀ (Q : Nat → Prop) (W : World) (u : Value), (∀ x, Q x → g < x) → Pz W g A c l at2 ask failed2 → Tr W Q N t u → Calls Tryz.prog 108 #[.pointer (some ⟨g, 0, none⟩), EVt t u] W (Res W g A c l N2 Q t3 at3 ask failed3)) :
    Calls Tryz.prog 109 #[.pointer (some ⟨g, 0, none⟩)] w (Res w g A c l N2 (fun _ => False) t3 at3 ask failed3) := by
  have HZ := Lib.hid hz
  have hgl := hz.lt
  have HX := Lib.hid (And.intro h1 h2)
  clear hz h1 h2
  have hne0 : ¬ w.heap.size = g := by omega
  go_enter Tryz.func109, Tryz.ntmps109
  go_wp2_with (first
    | (go_at_call 66; refine (HX.out.1 _ (HZ.out.alloc _)).mono ?_; rintro e w1 ⟨u1, rfl, ht1, hp1, hg1⟩; obtain ⟨B1, q1, rfl, _⟩ := ht1.form; unfold EVt; have hc1 := (gcell hg1).1; have hf1 := (gcell hg1).2; have hy1 := hg1.size; (try simp at hy1); have hz1_0 : w.heap.size < w1.heap.size := (by omega); have HP1 := Lib.hid (And.intro ht1 (And.intro hp1 hg1)); clear ht1 hp1 hg1; have HG1 : Hid (w.grownBy w1 (some g)) := grow_trans (grow_alloc _ _ _) HP1.out.2.2)
    | (go_at_call 108; refine (HX.out.2 (fun b => w.heap.size < b) _ _ (fun x (h : w.heap.size < x) => by omega) HP1.out.2.1 (HP1.out.1.keep (fun _ _ _ => rfl) (fun b h _ => h.elim False.elim (fun h => by simp at h; omega)))).mono ?_; rintro e w2 ⟨u2, rfl, ht2, hp2, hg2⟩; obtain ⟨B2, q2, rfl, _⟩ := ht2.form; unfold EVt; have hc2 := (gcell hg2).1; have hf2 := (gcell hg2).2; have hy2 := hg2.size; (try simp at hy2); have hz2_0 : w.heap.size < w2.heap.size := (by omega); have HP2 := Lib.hid (And.intro ht2 (And.intro hp2 hg2)); clear ht2 hp2 hg2))
  refine bodyPost_ret (v := .agg #[.string t3.op, .int .i64 t3.x.k, .int .i64 t3.x.i, .string t3.x.s, .string t3.s, .slice B2 t3.l.length q2]) (by simp [results, Tryz.results109, go_sem, *]) rfl ?_
  exact Res.store (Q := (fun _ => False)) (R := fun b => w.heap.size < b) (HP2.out.1.keep (fun _ _ _ => rfl) (fun b h _ => h.elim id (fun h => by omega))) HP2.out.2.1 (grow_trans HG1.out HP2.out.2.2) (b := w.heap.size) (Nat.le_refl _) hgl (by omega) (fun x h _ => .inr (Nat.le_of_lt h)) _ _ _ _ _ _

set_option maxRecDepth 100000 in
set_option maxHeartbeats 4000000 in
theorem por_any {N : Nat} (g : Nat) (A : Option Addr) (c : Nat) (l : List Tn) (at' ask : Nat) (failed : Bool) (t t3 : Ex) (at2 at3 : Nat) (failed2 failed3 : Bool) {N2 : Nat} (w : World) (hz : Pz w g A c l at' ask failed)
    (h1 : ∀ W, Pz W g A c l at' ask failed → Calls Tryz.prog 66 #[.pointer (some ⟨g, 0, none⟩)] W (Res W g A c l N (fun _ => False) t at2 ask failed2))
    (h2 : ∀ (Q : Nat → Prop) (W : World) (u : Value), (∀ x, Q x → g < x) → Pz W g A c l at2 ask failed2 → Tr W Q N t u → Calls Tryz.prog 65 #[.pointer (some ⟨g, 0, none⟩), EVt t u] W (Res W g A c l N2 Q t3 at3 ask failed3)) :
    Calls Tryz.prog 42 #[.pointer (some ⟨g, 0, none⟩)] w (Res w g A c l N2 (fun _ => False) t3 at3 ask failed3) := by
  have HZ := Lib.hid hz
  have hgl := hz.lt
  have HX := Lib.hid (And.intro h1 h2)
  clear hz h1 h2
  have hne0 : ¬ w.heap.size = g := by omega
  go_enter Tryz.func42, Tryz.ntmps42
  go_wp2_with (first
    | (go_at_call 66; refine (HX.out.1 _ (HZ.out.alloc _)).mono ?_; rintro e w1 ⟨u1, rfl, ht1, hp1, hg1⟩; obtain ⟨B1, q1, rfl, _⟩ := ht1.form; unfold EVt; have hc1 := (gcell hg1).1; have hf1 := (gcell hg1).2; have hy1 := hg1.size; (try simp at hy1); have hz1_0 : w.heap.size < w1.heap.size := (by omega); have HP1 := Lib.hid (And.intro ht1 (And.intro hp1 hg1)); clear ht1 hp1 hg1; have HG1 : Hid (w.grownBy w1 (some g)) := grow_trans (grow_alloc _ _ _) HP1.out.2.2)
    | (go_at_call 65; refine (HX.out.2 (fun b => w.heap.size < b) _ _ (fun x (h : w.heap.size < x) => by omega) HP1.out.2.1 (HP1.out.1.keep (fun _ _ _ => rfl) (fun b h _ => h.elim False.elim (fun h => by simp at h; omega)))).mono ?_; rintro e w2 ⟨u2, rfl, ht2, hp2, hg2⟩; obtain ⟨B2, q2, rfl, _⟩ := ht2.form; unfold EVt; have hc2 := (gcell hg2).1; have hf2 := (gcell hg2).2; have hy2 := hg2.size; (try simp at hy2); have hz2_0 : w.heap.size < w2.heap.size := (by omega); have HP2 := Lib.hid (And.intro ht2 (And.intro hp2 hg2)); clear ht2 hp2 hg2))
  refine bodyPost_ret (v := .agg #[.string t3.op, .int .i64 t3.x.k, .int .i64 t3.x.i, .string t3.x.s, .string t3.s, .slice B2 t3.l.length q2]) (by simp [results, Tryz.results42, go_sem, *]) rfl ?_
  exact Res.store (Q := (fun _ => False)) (R := fun b => w.heap.size < b) (HP2.out.1.keep (fun _ _ _ => rfl) (fun b h _ => h.elim id (fun h => by omega))) HP2.out.2.1 (grow_trans HG1.out HP2.out.2.2) (b := w.heap.size) (Nat.le_refl _) hgl (by omega) (fun x h _ => .inr (Nat.le_of_lt h)) _ _ _ _ _ _

set_option maxRecDepth 100000 in
set_option maxHeartbeats 4000000 in
theorem pnot_any {N : Nat} (g : Nat) (A : Option Addr) (c : Nat) (l : List Tn) (at' ask : Nat) (failed : Bool) (tn : Tn) (t t3 : Ex) (at2 at3 : Nat) (failed2 failed3 : Bool) {N2 : Nat} (w : World) (hz : Pz w g A c l at' ask failed) (hl : l.length ≤ 100000) (hx : Nx l at' failed tn) (hno : isB tn ⟨#[78, 79, 84]⟩ = false)
    (h1 : ∀ W, Pz W g A c l at' ask failed → Calls Tryz.prog 112 #[.pointer (some ⟨g, 0, none⟩)] W (Res W g A c l N (fun _ => False) t at2 ask failed2))
    (h2 : ∀ (Q : Nat → Prop) (W : World) (u : Value), (∀ x, Q x → g < x) → Pz W g A c l at2 ask failed2 → Tr W Q N t u → Calls Tryz.prog 111 #[.pointer (some ⟨g, 0, none⟩), EVt t u] W (Res W g A c l N2 Q t3 at3 ask failed3)) :
    Calls Tryz.prog 66 #[.pointer (some ⟨g, 0, none⟩)] w (Res w g A c l N2 (fun _ => False) t3 at3 ask failed3) := by
  have HZ := Lib.hid hz
  have hgl := hz.lt
  have HX := Lib.hid (And.intro h1 h2)
  have HN := Lib.hid (And.intro hx hno)
  clear hz h1 h2 hx hno
  have hne0 : ¬ w.heap.size = g := by omega
  have hmf : ∀ (fn : Fn) (first cap : Array Value) (w : World), (Instr.makeFunc fn first cap).run Tryz.prog w = .ok (.func fn first cap) w := fun _ _ _ _ => rfl
  go_enter Tryz.func66, Tryz.ntmps66
  go_wp2_with (first
    | (go_at_call 110; refine (take_no g A c l at' ask failed _ 1 [⟨#[78, 79, 84]⟩] tn _ ((HZ.out.alloc _).alloc _) hl HN.out.1 (wds1 _ (by simp) ⟨#[78, 79, 84]⟩) (by simp) (all1 HN.out.2)).mono ?_; rintro e w0 ⟨rfl, hb0⟩; have HB0 : Hid (Below w.heap.size w w0) := (((Below.refl _ _).alloc (Nat.le_refl _) _).alloc (by simp) _).trans (hb0.mono (by simp; omega)); have HD0 : Hid (Below (w.heap.size + 1) (w.alloc (.cells #[.string ⟨#[]⟩, .int .i64 0, .int .i64 0, .string ⟨#[]⟩, .string ⟨#[]⟩, .slice none 0 0] 26)) w0) := ((Below.refl _ _).alloc (by simp) _).trans (hb0.mono (by simp)); have hs0 : w.heap.size + 1 ≤ w0.heap.size := (by have := HD0.out.size; simp at this; omega); clear hb0)
    | (go_at_call 112; refine (HX.out.1 _ (HZ.out.below HB0.out)).mono ?_; rintro e w1 ⟨u1, rfl, ht1, hp1, hg1⟩; obtain ⟨B1, q1, rfl, _⟩ := ht1.form; unfold EVt; have hc1 := (gcell hg1).1; have hf1 := (gcell hg1).2; have hy1 := hg1.size; (try simp at hy1); have hz1_0 : w.heap.size < w1.heap.size := (by omega); have HP1 := Lib.hid (And.intro ht1 (And.intro hp1 hg1)); clear ht1 hp1 hg1; have HG1 : Hid (w.grownBy w1 (some g)) := grow_trans (grow_below HB0.out _) HP1.out.2.2)
    | (go_at_call 111; refine (HX.out.2 (fun b => w.heap.size < b) _ _ (fun x (h : w.heap.size < x) => by omega) HP1.out.2.1 (HP1.out.1.keep (fun _ _ _ => rfl) (fun b h _ => h.elim False.elim (fun h => by omega)))).mono ?_; rintro e w2 ⟨u2, rfl, ht2, hp2, hg2⟩; obtain ⟨B2, q2, rfl, _⟩ := ht2.form; unfold EVt; have hc2 := (gcell hg2).1; have hf2 := (gcell hg2).2; have hy2 := hg2.size; (try simp at hy2); have hz2_0 : w.heap.size < w2.heap.size := (by omega); have HP2 := Lib.hid (And.intro ht2 (And.intro hp2 hg2)); clear ht2 hp2 hg2; clear hc1 hc2 hf1 hf2; have hbx : w2.heap[w.heap.size]? = some (.cells #[.string ⟨#[]⟩, .int .i64 0, .int .i64 0, .string ⟨#[]⟩, .string ⟨#[]⟩, .slice none 0 0] 26 (0, 0)) := (HP2.out.2.2.block _ (by omega) (fun e => by injection e with e; omega)).trans ((HP1.out.2.2.block _ (by omega) (fun e => by injection e with e; omega)).trans ((HD0.out.block _ (by omega)).trans (alloc_at rfl _))); have EZ := box_cells (t := zT) hbx; have y0 := EZ.c0; have y1 := EZ.c1; have y2 := EZ.c2; have y3 := EZ.c3; have y4 := EZ.c4; have y5 := EZ.c5; have yf := Lib.frozen_of_heap hbx; simp only [Nat.zero_add] at y0 y1 y2 y3 y4 y5; clear EZ))
  refine bodyPost_ret (v := .agg #[.string t3.op, .int .i64 t3.x.k, .int .i64 t3.x.i, .string t3.x.s, .string t3.s, .slice B2 t3.l.length q2]) (by simp [results, Tryz.results66, go_sem, *]) rfl ?_
  exact Res.store (Q := (fun _ => False)) (R := fun b => w.heap.size < b) (HP2.out.1.keep (fun _ _ _ => rfl) (fun b h _ => h.elim id (fun h => by omega))) HP2.out.2.1 (grow_trans HG1.out HP2.out.2.2) (b := w.heap.size) (Nat.le_refl _) hgl (by omega) (fun x h _ => .inr (Nat.le_of_lt h)) _ _ _ _ _ _

end Go.Proofs.YtmgcmiflbjhakaaGreatDoor

/- What is written is cut as it was: plain facts, no walk. -/
namespace Go.Proofs.YtmgcmiflbjhakaaGreatDoor
open Go.RowKit Go.Lib

def Tk.may (t : Tk) : Bool := tmayB t.k ⟨t.s.toArray⟩
/-- A token as it is written. -/
def tkO (t : Tk) : List UInt8 := if t.k = 3 then 39 :: (dbl t.s ++ [39]) else t.s
/-- What may stand behind a token: nothing, or a blank. -/
def After (r : List UInt8) : Prop := ∀ c, r.head? = some c → blankB c = true
theorem blank_is {c : UInt8} (h : blankB c = true) : c = 32 ∨ c = 10 := by
  have := List.contains_iff_mem.1 h
  simpa using this
theorem After.nil : After [] := fun c h => by cases h
theorem After.cons {c : UInt8} (h : blankB c = true) (r : List UInt8) : After (c :: r) := fun d hd => by simp at hd; rw [← hd]; exact h
theorem After.q {r : List UInt8} (h : After r) : r.head? ≠ some 39 := fun e => by rcases blank_is (h 39 e) with h | h <;> exact absurd h (by decide)
theorem After.no {r : List UInt8} (h : After r) (q : UInt8 → Bool) (h1 : q 32 = false) (h2 : q 10 = false) : r.takeWhile q = [] := by
  cases r with
  | nil => rfl
  | cons c r =>
    rw [List.takeWhile_cons]
    rcases blank_is (h c rfl) with e | e
    · rw [e, h1]; rfl
    · rw [e, h2]; rfl
theorem tw_app {q : UInt8 → Bool} {r : List UInt8} : ∀ (l : List UInt8), r.takeWhile q = [] → (l ++ r).takeWhile q = l.takeWhile q
  | [], h => h
  | c :: l, h => by
    rw [List.cons_append, List.takeWhile_cons, List.takeWhile_cons, tw_app l h]
theorem par_32 : parB 32 = false ∧ parB 10 = false := by decide
theorem dig_32 : digB 32 = false ∧ digB 10 = false := by decide
theorem qscan_app : ∀ (n : Nat) (l x t b : List UInt8), l.length ≤ n → qscan l = some (x, t) → (t = [] → b.head? ≠ some 39) → qscan (l ++ b) = some (x, t ++ b) := by
  intro n l x t b _ h hb
  obtain ⟨h1, h2⟩ := qscan_some _ l x t (Nat.le_refl _) h
  rw [h1, List.append_assoc, List.cons_append]
  refine qscan_dbl x (t ++ b) ?_
  cases t with
  | nil => exact hb rfl
  | cons c t => simpa using h2
theorem qscan_none_app : ∀ (n : Nat) (l b : List UInt8), l.length ≤ n → (∀ c ∈ b, c ≠ 39) → qscan l = none → qscan (l ++ b) = none
  | _, [], b, _, hb, _ => qscan_free b fun k e => hb 39 (List.mem_of_getElem? e) rfl
  | 0, _ :: _, _, hn, _, _ => by simp at hn
  | n + 1, c :: l, b, hn, hb, h => by
    by_cases hc : c = 39
    · subst hc
      cases l with
      | nil => simp [qscan] at h
      | cons d l =>
        by_cases hd : d = 39
        · subst hd
          rw [qscan_two] at h
          have h' : qscan l = none := by
            cases hq : qscan l with
            | none => rfl
            | some y => rw [hq] at h; cases h
          rw [List.cons_append, List.cons_append, qscan_two, qscan_none_app n l b (by simp at hn; omega) hb h']
          rfl
        · rw [qscan_end (by simpa using hd)] at h
          cases h
    · rw [qscan_other hc] at h
      have h' : qscan l = none := by
        cases hq : qscan l with
        | none => rfl
        | some y => rw [hq] at h; cases h
      rw [List.cons_append, qscan_other hc, qscan_none_app n l b (by simp at hn; omega) hb h']
      rfl
theorem fst_app {x b : List UInt8} {t : Tk} {n : Nat} (h : fst x = some (t, n)) (hb : After b) : fst (x ++ b) = some (t, n) := by
  obtain ⟨hn1, hn2⟩ := fst_pos h
  cases x with
  | nil => cases h
  | cons c r =>
    have hp := tw_app (q := parB) r (hb.no parB par_32.1 par_32.2)
    have hd := tw_app (q := digB) r (hb.no digB dig_32.1 dig_32.2)
    have lp := (List.takeWhile_sublist parB (l := r)).length_le
    have ld := (List.takeWhile_sublist digB (l := r)).length_le
    rw [List.cons_append]
    unfold fst at h ⊢
    simp only at h ⊢
    by_cases h39 : c = 39
    · rw [if_pos h39] at h ⊢
      cases hq : qscan r with
      | none => rw [hq] at h; cases h
      | some y =>
        obtain ⟨y1, y2⟩ := y
        rw [hq] at h
        rw [qscan_app _ r y1 y2 b (Nat.le_refl _) hq (fun _ => hb.q)]
        simp only at h ⊢
        split at h
        · rename_i hm
          rw [if_pos hm]
          simp only [Option.some.injEq, Prod.mk.injEq] at h
          rw [← h.1, ← h.2]
          simp
          omega
        · cases h
    · rw [if_neg h39] at h ⊢
      rw [hp, hd]
      by_cases hl : letB c = true
      · rw [if_pos hl] at h ⊢
        split at h
        · rename_i hz
          rw [if_pos hz]
          simp only [Option.some.injEq, Prod.mk.injEq] at h
          rw [← h.1, ← h.2]
          have e : (c :: (r ++ b)).take (1 + (r.takeWhile parB).length) = (c :: r).take (1 + (r.takeWhile parB).length) := by
            rw [← List.cons_append, List.take_append_of_le_length (by simp; omega)]
          rw [e]
        · cases h
      · rw [if_neg hl] at h ⊢
        by_cases hg : digB c = true
        · rw [if_pos hg] at h ⊢
          split at h
          · rename_i hz
            rw [if_pos hz]
            simp only [Option.some.injEq, Prod.mk.injEq] at h
            rw [← h.1, ← h.2]
            have e : (c :: (r ++ b)).take (1 + (r.takeWhile digB).length) = (c :: r).take (1 + (r.takeWhile digB).length) := by
              rw [← List.cons_append, List.take_append_of_le_length (by simp; omega)]
            rw [e]
          · cases h
        · rw [if_neg hg] at h ⊢
          exact h
theorem fst_none_app {x b : List UInt8} (hx : x ≠ []) (h : fst x = none) (hb : ∀ c ∈ b, blankB c = true) : fst (x ++ b) = none := by
  have ha : After b := fun c hc => hb c (List.mem_of_mem_head? hc)
  have hq39 : ∀ c ∈ b, c ≠ 39 := fun c hc e => by subst e; exact absurd (hb 39 hc) (by decide)
  cases x with
  | nil => exact absurd rfl hx
  | cons c r =>
    have hp := tw_app (q := parB) r (ha.no parB par_32.1 par_32.2)
    have hd := tw_app (q := digB) r (ha.no digB dig_32.1 dig_32.2)
    rw [List.cons_append]
    unfold fst at h ⊢
    simp only at h ⊢
    by_cases h39 : c = 39
    · rw [if_pos h39] at h ⊢
      cases hq : qscan r with
      | none => rw [qscan_none_app _ r b (Nat.le_refl _) hq39 hq]
      | some y =>
        obtain ⟨y1, y2⟩ := y
        rw [hq] at h
        rw [qscan_app _ r y1 y2 b (Nat.le_refl _) hq (fun _ => ha.q)]
        simp only at h ⊢
        split at h
        · cases h
        · rename_i hm; rw [if_neg hm]
    · rw [if_neg h39] at h ⊢
      rw [hp, hd]
      by_cases hl : letB c = true
      · rw [if_pos hl] at h ⊢
        split at h
        · cases h
        · rename_i hz; rw [if_neg hz]
      · rw [if_neg hl] at h ⊢
        by_cases hg : digB c = true
        · rw [if_pos hg] at h ⊢
          split at h
          · cases h
          · rename_i hz; rw [if_neg hz]
        · rw [if_neg hg] at h ⊢
          exact h
theorem skip_app_of {s : List UInt8} (b : List UInt8) (h : skip s ≠ []) : skip (s ++ b) = skip s ++ b := by
  unfold skip at *
  induction s with
  | nil => exact absurd rfl h
  | cons c s ih =>
    rw [List.cons_append, List.dropWhile_cons, List.dropWhile_cons]
    rw [List.dropWhile_cons] at h
    split
    · rename_i hc; rw [if_pos hc] at h; exact ih h
    · rfl
theorem skip_app_nil {s : List UInt8} (b : List UInt8) (h : skip s = []) : skip (s ++ b) = skip b := by
  unfold skip at *
  induction s with
  | nil => rfl
  | cons c s ih =>
    rw [List.cons_append, List.dropWhile_cons]
    rw [List.dropWhile_cons] at h
    split
    · rename_i hc; rw [if_pos hc] at h; exact ih h
    · rename_i hc; rw [if_neg hc] at h; cases h
theorem skip_blank {b : List UInt8} (hb : ∀ c ∈ b, blankB c = true) : skip b = [] := by
  induction b with
  | nil => rfl
  | cons c b ih =>
    unfold skip
    rw [List.dropWhile_cons, if_pos (hb c List.mem_cons_self)]
    exact ih fun d hd => hb d (List.mem_cons_of_mem _ hd)
theorem cut_front {b : List UInt8} (hb : ∀ c ∈ b, blankB c = true) (s : List UInt8) : cut (b ++ s) = cut s := by
  rw [← cut_skip (b ++ s), skip_app_nil s (skip_blank hb), cut_skip]
theorem cut_app : ∀ (k : Nat) (s : List UInt8), s.length ≤ k → ∀ (a : List Tk) (z : List UInt8), cut s = some a → After z → cut (s ++ z) = (cut z).map (a ++ ·)
  | k, s, hk, a, z, h, hz => by
    cases hf : fst (skip s) with
    | none =>
      by_cases hn : skip s = []
      · rw [cut_end hn] at h
        obtain rfl := Option.some.inj h
        rw [← cut_skip (s ++ z), skip_app_nil z hn, cut_skip]
        cases cut z <;> rfl
      · rw [cut_none hf hn] at h; cases h
    | some y =>
      obtain ⟨t, n⟩ := y
      obtain ⟨p1, p2⟩ := fst_pos hf
      have hsk := skip_len s
      have hn : skip s ≠ [] := fun e => by rw [e] at hf; cases hf
      rw [cut_more hf] at h
      cases hr : cut ((skip s).drop n) with
      | none => rw [hr] at h; cases h
      | some a' =>
        rw [hr] at h
        obtain rfl := Option.some.inj h
        have e := skip_app_of z hn
        have hf' : fst (skip (s ++ z)) = some (t, n) := by rw [e]; exact fst_app hf hz
        rw [cut_more hf', e, List.drop_append_of_le_length p2]
        cases k with
        | zero => omega
        | succ k =>
          rw [cut_app k ((skip s).drop n) (by rw [List.length_drop]; omega) a' z hr hz]
          cases cut z <;> simp
theorem cut_app_none : ∀ (k : Nat) (s : List UInt8), s.length ≤ k → ∀ (b : List UInt8), cut s = none → (∀ c ∈ b, blankB c = true) → cut (s ++ b) = none
  | k, s, hk, b, h, hb => by
    have ha : After b := fun c hc => hb c (List.mem_of_mem_head? hc)
    cases hf : fst (skip s) with
    | none =>
      by_cases hn : skip s = []
      · rw [cut_end hn] at h; cases h
      · have e := skip_app_of b hn
        exact cut_none (by rw [e]; exact fst_none_app hn hf hb) (by rw [e]; simp [hn])
    | some y =>
      obtain ⟨t, n⟩ := y
      obtain ⟨p1, p2⟩ := fst_pos hf
      have hsk := skip_len s
      have hn : skip s ≠ [] := fun e => by rw [e] at hf; cases hf
      rw [cut_more hf] at h
      have hr : cut ((skip s).drop n) = none := by
        cases hr : cut ((skip s).drop n) with
        | none => rfl
        | some a' => rw [hr] at h; cases h
      have e := skip_app_of b hn
      have hf' : fst (skip (s ++ b)) = some (t, n) := by rw [e]; exact fst_app hf ha
      rw [cut_more hf', e, List.drop_append_of_le_length p2]
      cases k with
      | zero => omega
      | succ k =>
        rw [cut_app_none k ((skip s).drop n) (by rw [List.length_drop]; omega) b hr hb]
        rfl
/-- Blanks at either end change nothing. -/
theorem cut_ends {b : List UInt8} (hb : ∀ c ∈ b, blankB c = true) (s : List UInt8) : cut (b ++ s ++ b) = cut s := by
  rw [List.append_assoc, cut_front hb]
  cases h : cut s with
  | none => exact cut_app_none _ s (Nat.le_refl _) b h hb
  | some a =>
    rw [cut_app _ s (Nat.le_refl _) a b h (fun c hc => hb c (List.mem_of_mem_head? hc)), cut_end (skip_blank hb)]
    simp
theorem cut_between {b s t : List UInt8} {x y : List Tk} (hb : ∀ c ∈ b, blankB c = true) (hne : b ≠ []) (hs : cut s = some x) (ht : cut t = some y) : cut (s ++ b ++ t) = some (x ++ y) := by
  rw [List.append_assoc, cut_app _ s (Nat.le_refl _) x (b ++ t) hs (fun c hc => by
    cases b with
    | nil => exact absurd rfl hne
    | cons d b => exact hb c (by simp at hc; rw [hc]; exact List.mem_cons_self)), cut_front hb, ht]
  rfl

theorem kmay_form {p q : UInt8 → Bool} {m : Nat} {l : List UInt8} (h : kmay p q m l = true) : ∃ c r, l = c :: r ∧ p c = true ∧ r.takeWhile q = r ∧ 1 + r.length ≤ m := by
  unfold kmay at h
  cases l with
  | nil => simp at h
  | cons c r =>
    rw [Bool.and_eq_true, Bool.and_eq_true, decide_eq_true_eq, decide_eq_true_eq] at h
    obtain ⟨_, h1, h2⟩ := h
    cases hp : p c with
    | false => rw [tog_zero hp] at h2; simp at h2
    | true =>
      rw [tog_on hp] at h2
      simp only [List.length_cons] at h1 h2
      refine ⟨c, r, rfl, hp, ?_, by omega⟩
      exact (List.takeWhile_prefix q).eq_of_length (by omega)
/-- A token that may be, as it is written, is the first token of what begins so. -/
theorem fst_tk {t : Tk} (h : t.may = true) {r : List UInt8} (hr : After r) : fst (tkO t ++ r) = some (t, (tkO t).length) ∧ ∃ c l, tkO t = c :: l ∧ blankB c = false := by
  have key : fst (tkO t) = some (t, (tkO t).length) ∧ ∃ c l, tkO t = c :: l ∧ blankB c = false := by
    obtain ⟨k, s⟩ := t
    unfold Tk.may tmayB at h
    simp only at h
    unfold tkO
    simp only
    by_cases h3 : k = 3
    · subst h3
      rw [if_pos rfl] at h ⊢
      refine ⟨?_, 39, _, rfl, by decide⟩
      have := qscan_dbl s [] (by simp)
      simp only [fst, if_true]
      rw [this]
      simp only
      rw [if_pos h]
      simp
    · rw [if_neg h3] at h ⊢
      by_cases h1 : k = 1
      · rw [if_pos h1] at h
        obtain ⟨c, l, e, hp, hq, hm⟩ := kmay_form h
        have e : s = c :: l := by simpa using e
        subst e
        have hc39 : c ≠ 39 := fun e => by subst e; exact absurd hp (by decide)
        refine ⟨?_, c, l, rfl, ?_⟩
        · simp only [fst]
          rw [if_neg hc39, if_pos hp, hq, if_pos hm, h1, List.take_of_length_le (by simp; omega)]
          simp
          omega
        · cases hb : blankB c with
          | false => rfl
          | true => rcases blank_is hb with rfl | rfl <;> exact absurd hp (by decide)
      · rw [if_neg h1] at h
        by_cases h2 : k = 2
        · rw [if_pos h2] at h
          obtain ⟨c, l, e, hp, hq, hm⟩ := kmay_form h
          have e : s = c :: l := by simpa using e
          subst e
          have hc39 : c ≠ 39 := fun e => by subst e; exact absurd hp (by decide)
          have hlet : ¬ letB c = true := fun e => by rw [let_not e] at hp; cases hp
          refine ⟨?_, c, l, rfl, ?_⟩
          · simp only [fst]
            rw [if_neg hc39, if_neg hlet, if_pos hp, hq, if_pos hm, h2, List.take_of_length_le (by simp; omega)]
            simp
            omega
          · cases hb : blankB c with
            | false => rfl
            | true => rcases blank_is hb with rfl | rfl <;> exact absurd hp (by decide)
        · rw [if_neg h2] at h
          by_cases h4 : k = 4
          · rw [if_pos h4] at h
            obtain ⟨c, l, e, hp, hq, hm⟩ := kmay_form h
            have e : s = c :: l := by simpa using e
            have hl : l = [] := List.length_eq_zero_iff.1 (by omega)
            subst hl
            subst e
            have hc39 : c ≠ 39 := fun e => by subst e; exact absurd hp (by decide)
            obtain ⟨n1, n2⟩ := sig_not hp
            refine ⟨?_, c, [], rfl, ?_⟩
            · simp only [fst]
              rw [if_neg hc39, n1, n2, hp, h4]
              rfl
            · cases hb : blankB c with
              | false => rfl
              | true => rcases blank_is hb with rfl | rfl <;> exact absurd hp (by decide)
          · rw [if_neg h4] at h; cases h
  exact ⟨fst_app key.1 hr, key.2⟩
theorem skip_tk {t : Tk} (h : t.may = true) (r : List UInt8) : skip (tkO t ++ r) = tkO t ++ r := by
  obtain ⟨_, c, l, e, hb⟩ := fst_tk h (r := []) After.nil
  rw [e, List.cons_append]
  unfold skip
  rw [List.dropWhile_cons, hb]
  rfl
theorem cut_tk {t : Tk} (h : t.may = true) {r : List UInt8} (hr : After r) : cut (tkO t ++ r) = (cut r).map (t :: ·) := by
  rw [cut_more (l := tkO t ++ r) (by rw [skip_tk h]; exact (fst_tk h hr).1), skip_tk h, List.drop_left]
/-- Tokens as they are written. -/
def joinO : List Tk → List UInt8
  | [] => []
  | [t] => tkO t
  | t :: u :: l => tkO t ++ 32 :: joinO (u :: l)
theorem cut_join : ∀ l : List Tk, (∀ t ∈ l, t.may = true) → cut (joinO l) = some l
  | [], _ => cut_end rfl
  | [t], h => by
    have := cut_tk (h t List.mem_cons_self) After.nil
    rw [List.append_nil, cut_end (l := []) rfl] at this
    exact this
  | t :: u :: l, h => by
    rw [joinO, cut_tk (h t List.mem_cons_self) (After.cons (by decide) _)]
    have e : cut (32 :: joinO (u :: l)) = cut (joinO (u :: l)) := cut_front (b := [32]) (by decide) _
    rw [e, cut_join (u :: l) fun x hx => h x (List.mem_cons_of_mem _ hx)]
    rfl
/-- What a text is cut into may be. -/
theorem fst_may {l : List UInt8} {t : Tk} {n : Nat} (h : fst l = some (t, n)) : t.may = true := by
  cases l with
  | nil => cases h
  | cons c r =>
    unfold fst at h
    simp only at h
    have hk : ∀ (p q : UInt8 → Bool) (m : Nat), p c = true → 1 + (r.takeWhile q).length ≤ m → kmay p q m ((c :: r).take (1 + (r.takeWhile q).length)) = true := by
      intro p q m hp hm
      have := kmay_take p q m (c :: r)
      rw [tog_on hp] at this
      rw [this, decide_eq_true hm]
      simp
    split at h
    · cases hq : qscan r with
      | none => rw [hq] at h; cases h
      | some y =>
        rw [hq] at h
        simp only at h
        split at h
        · rename_i hm
          simp only [Option.some.injEq, Prod.mk.injEq] at h
          rw [← h.1]
          exact hm
        · cases h
    · split at h
      · rename_i hp
        split at h
        · rename_i hm
          simp only [Option.some.injEq, Prod.mk.injEq] at h
          rw [← h.1]
          exact hk letB parB 16 hp hm
        · cases h
      · split at h
        · rename_i hp
          split at h
          · rename_i hm
            simp only [Option.some.injEq, Prod.mk.injEq] at h
            rw [← h.1]
            exact hk digB digB 19 hp hm
          · cases h
        · split at h
          · rename_i hp
            simp only [Option.some.injEq, Prod.mk.injEq] at h
            rw [← h.1]
            have := hk sigB nonB 1 hp (by rw [none_none]; simp)
            rw [none_none] at this
            exact this
          · cases h
theorem cut_may : ∀ (k : Nat) (s : List UInt8), s.length ≤ k → ∀ ts : List Tk, cut s = some ts → ∀ t ∈ ts, t.may = true
  | k, s, hk, ts, h => by
    cases hf : fst (skip s) with
    | none =>
      by_cases hn : skip s = []
      · rw [cut_end hn] at h
        obtain rfl := Option.some.inj h
        intro t ht; cases ht
      · rw [cut_none hf hn] at h; cases h
    | some y =>
      obtain ⟨t, n⟩ := y
      obtain ⟨p1, p2⟩ := fst_pos hf
      have hsk := skip_len s
      rw [cut_more hf] at h
      cases hr : cut ((skip s).drop n) with
      | none => rw [hr] at h; cases h
      | some a' =>
        rw [hr] at h
        obtain rfl := Option.some.inj h
        cases k with
        | zero => omega
        | succ k =>
          intro u hu
          rcases List.mem_cons.1 hu with rfl | hu
          · exact fst_may hf
          · exact cut_may k ((skip s).drop n) (by rw [List.length_drop]; omega) a' hr u hu
end Go.Proofs.YtmgcmiflbjhakaaGreatDoor

/- Join: tokens as they are written. -/
namespace Go.Proofs.YtmgcmiflbjhakaaGreatDoor
open Go.RowKit Go.Lib

theorem Toks.none (W : World) (B : Nat) : Toks W B none 0 [] := ⟨rfl, fun j hj => absurd hj (by simp)⟩
/-- A token as the program writes it. -/
def tkW (k : Int) (s : ByteArray) : List UInt8 := if k = 3 then txtO 2 0 s else s.data.toList
theorem tkW_may {t : Tk} (h : t.may = true) : tkW t.k ⟨t.s.toArray⟩ = tkO t := by
  unfold tkW tkO
  by_cases h3 : t.k = 3
  · rw [if_pos h3, if_pos h3]
    unfold Tk.may tmayB at h
    rw [if_pos h3] at h
    exact quote_txt t.s h
  · rw [if_neg h3, if_neg h3]
theorem tkO_len {t : Tk} (h : t.may = true) : (tkO t).length ≤ 100 := by
  unfold tkO
  unfold Tk.may tmayB at h
  have hk : ∀ (p q : UInt8 → Bool) (m : Nat), m ≤ 19 → kmay p q m (⟨t.s.toArray⟩ : ByteArray).data.toList = true → t.s.length ≤ 19 := fun p q m hm h => by
    obtain ⟨c, r, e, _, _, h4⟩ := kmay_form h
    have e : t.s = c :: r := by simpa using e
    rw [e]; simp; omega
  by_cases h3 : t.k = 3
  · rw [if_pos h3]
    rw [if_pos h3] at h
    have h40 : t.s.length ≤ 40 := by
      unfold mayB at h
      simp at h
      simpa [ByteArray.size] using h.1
    have := dbl_len t.s
    simp
    omega
  · rw [if_neg h3]
    rw [if_neg h3] at h
    split at h
    · have := hk _ _ _ (by omega) h; omega
    · split at h
      · have := hk _ _ _ (by omega) h; omega
      · split at h
        · have := hk _ _ _ (by omega) h; omega
        · cases h
/-- The texts of these tokens are none too great. -/
def ShortT (l : List Tk) : Prop := ∀ x ∈ l, (⟨x.s.toArray⟩ : ByteArray).size ≤ 100000
def tidxN (l : List Tk) (k : Nat) : Int := match l with
  | [] => -1
  | x :: r => if x.may then tidxN r (k + 1) else k
theorem tidxN_any : ∀ (l : List Tk) (k : Nat), decide (0 ≤ tidxN l k) = !l.all Tk.may
  | [], k => by simp [tidxN]
  | x :: l, k => by
    rw [tidxN]
    cases hx : x.may with
    | true => simp [hx, tidxN_any l (k + 1)]
    | false => simp [hx]
theorem ret_int' {a b : Int} (h : a = b) : Ending.returned (.int .i64 a) = .returned (.int .i64 b) := by rw [h]
end Go.Proofs.YtmgcmiflbjhakaaGreatDoor

/- Writing into a builder that the call has made: a string, an octet. -/
namespace Go.Proofs.YtmgcmiflbjhakaaGreatDoor
open Go.RowKit Go.Lib

theorem infoByte : (Tryz.prog.info? 5).map (fun i => (i.zero, i.size, i.bytes)) = some (some (.int .u8 0), 1, 1) := by kernel_rfl
theorem byteCells_app (l r : List UInt8) : byteCells (l ++ r) = byteCells l ++ byteCells r := by simp [byteCells]


set_option maxRecDepth 100000 in
set_option maxHeartbeats 4000000 in
theorem copyCheck_used (b : Nat) (w : World) (h0 : w.cell? ⟨b, 0, none⟩ = some (.pointer (some ⟨b, 0, none⟩))) :
    Calls Tryz.prog 198 #[.pointer (some ⟨b, 0, none⟩)] w fun e w' => e = .returned (.tuple #[]) ∧ w' = w := by
  obtain ⟨j, hj, _⟩ := Option.map_eq_some_iff.1 (show (Tryz.prog.info? 145).map (·.size) = some 2 by kernel_rfl)
  go_enter Tryz.func198, Tryz.ntmps198
  go_wp2
  rw [Lib.run_neq_ptr_same w _ Tryz.underlying142 hj]
  go_wp2
  go_end0
  exact ⟨rfl, rfl⟩

set_option maxRecDepth 100000 in
set_option maxHeartbeats 4000000 in
theorem copyCheck_fresh (b : Nat) (w : World) (h0 : w.cell? ⟨b, 0, none⟩ = some (.pointer none)) (hsh : w.shape? b = some (145, 2)) (hfz : w.frozen? ⟨b, 0, none⟩ = false) :
    Calls Tryz.prog 198 #[.pointer (some ⟨b, 0, none⟩)] w fun e w' => e = .returned (.tuple #[]) ∧ w' = w.setCell ⟨b, 0, none⟩ (.pointer (some ⟨b, 0, none⟩)) := by
  obtain ⟨j, hj, hjs⟩ := Option.map_eq_some_iff.1 (show (Tryz.prog.info? 145).map (·.size) = some 2 by kernel_rfl)
  go_enter Tryz.func198, Tryz.ntmps198
  go_wp2
  rw [Lib.run_to_unsafe w ⟨b, 0, none⟩ Tryz.underlying142 Tryz.underlying222 hj (by rw [hjs]; decide) hsh (Nat.zero_lt_succ 1)]
  simp only [Result.andThen]
  rw [Oper.upon_value]
  go_wp2
  rw [run_callFunc_extern Tryz.func241 (by kernel_rfl) (by kernel_rfl) (by kernel_rfl) (e := Extern.AbiNoEscape.same) (by kernel_rfl)]
  rw [Lib.run_noEscape]
  simp only [Result.andThen]
  rw [Oper.upon_value]
  go_wp2
  rw [Lib.run_from_unsafe w ⟨b, 0, none⟩ Tryz.underlying222 Tryz.underlying142 hj hsh (by kernel_rfl)]
  simp only [Result.andThen]
  rw [Oper.upon_value]
  go_wp2
  go_end0
  exact ⟨rfl, rfl⟩

theorem copyCheck_any (B b : Nat) (bs : List Value) (w : World) (h : Lib.IsBuilder 145 5 B b bs w) :
    Calls Tryz.prog 198 #[.pointer (some ⟨b, 0, none⟩)] w fun e w' => e = .returned (.tuple #[]) ∧ (Lib.BuilderAt 145 5 B b (.pointer (some ⟨b, 0, none⟩)) bs w' ∧ Below B w w') := by
  rcases h with h | h
  · refine (copyCheck_fresh b w h.cell0 h.shape h.frozen0).mono ?_
    rintro e w' ⟨rfl, rfl⟩
    exact ⟨rfl, h.used _, (Below.refl B w).setCell (p := ⟨b, 0, none⟩) h.1 _⟩
  · refine (copyCheck_used b w h.cell0).mono ?_
    rintro e w' ⟨rfl, rfl⟩
    exact ⟨rfl, h, Below.refl B _⟩

set_option maxRecDepth 100000 in
set_option maxHeartbeats 4000000 in
theorem write_any (B b : Nat) (bs : List Value) (s : ByteArray) (w : World) (h : Lib.IsBuilder 145 5 B b bs w) (hlen : bs.length + s.size ≤ 140737488355328) (hBw : B ≤ w.heap.size) :
    Calls Tryz.prog 138 #[.pointer (some ⟨b, 0, none⟩), .string s] w fun e w' => e = .returned (.tuple #[.int .i64 s.size, .nilIface]) ∧ (Lib.BuilderAt 145 5 B b (.pointer (some ⟨b, 0, none⟩)) (bs ++ Lib.strCells s) w' ∧ Below B w w') := by
  obtain ⟨i0, hi, hz0, hz1, hz2⟩ := info_parts infoByte
  go_enter Tryz.func138, Tryz.ntmps138
  go_wp2_with (go_at_call 198; refine (copyCheck_any B b bs _ h).mono ?_)
  rintro e w1 ⟨rfl, h1, hb1⟩
  obtain ⟨hB, v, hbk, hown, hne⟩ := h1
  have c0 : w1.cell? ⟨b, 0, none⟩ = some (.pointer (some ⟨b, 0, none⟩)) := by rw [Lib.cell_of_heap hbk]; rfl
  have c1 : w1.cell? ⟨b, 1, none⟩ = some v := by rw [Lib.cell_of_heap hbk]; rfl
  go_wp2_with (at_builtin; refine Lib.wpList_append_own_string _ rfl _ _ 143 9 rfl B 5 i0 Tryz.underlying143 Tryz.underlying9 hi hz0 hz1 hz2 _ _ _ rfl hown s rfl ?c3 ?c4 ?c5 ?_)
  case c3 => unfold maxLen; omega
  case c4 => omega
  case c5 => have := hb1.size; omega
  intro v' w2 hown' hgrow _
  have hlt : b < w1.heap.size := by
    rcases Nat.lt_or_ge b w1.heap.size with h' | h'
    · exact h'
    · simp [Array.getElem?_eq_none h'] at hbk
  have hb2 : w2.heap[b]? = some (.cells #[.pointer (some ⟨b, 0, none⟩), v] 145 (0, 0)) := by
    rw [hgrow.block b hlt (fun e => hne e.symm)]
    exact hbk
  have d0 : w2.cell? ⟨b, 0, none⟩ = some (.pointer (some ⟨b, 0, none⟩)) := by rw [Lib.cell_of_heap hb2]; rfl
  have d1 : w2.cell? ⟨b, 1, none⟩ = some v := by rw [Lib.cell_of_heap hb2]; rfl
  have f1 : w2.frozen? ⟨b, 1, none⟩ = false := Lib.frozen_of_heap hb2 1
  obtain ⟨ao, n', cap, rfl⟩ : ∃ ao n' cap, v' = .slice ao n' cap := by
    rcases hown'.2 with ⟨hv, _⟩ | ⟨g, cap, cur, hv, _⟩
    · exact ⟨_, _, _, hv⟩
    · exact ⟨_, _, _, hv⟩
  go_wp2
  go_ret2
  refine ⟨rfl, ?_, ?_⟩
  · exact Lib.BuilderAt.put (T := 145) (e := 5) hB hb2 (bs' := bs ++ Lib.strCells s) (by simpa [Lib.strCells_length] using hown') (by decide)
  · exact (hb1.grown hgrow (by have := hb1.size; omega) (fun k hk => (hown.lt k hk).1)).setCell (p := ⟨b, 1, none⟩) hB _

set_option maxRecDepth 100000 in
set_option maxHeartbeats 4000000 in
theorem writeByte_any (B b : Nat) (bs : List Value) (x : Int) (w : World) (h : Lib.IsBuilder 145 5 B b bs w) (hlen : bs.length + 1 ≤ 140737488355328) (hBw : B ≤ w.heap.size) :
    Calls Tryz.prog 255 #[.pointer (some ⟨b, 0, none⟩), .int .u8 x] w fun e w' => e = .returned .nilIface ∧ (Lib.BuilderAt 145 5 B b (.pointer (some ⟨b, 0, none⟩)) (bs ++ [.int .u8 x]) w' ∧ Below B w w') := by
  obtain ⟨i0, hi, hz0, hz1, hz2⟩ := info_parts infoByte
  go_enter Tryz.func255, Tryz.ntmps255
  go_wp2_with (go_at_call 198; refine (copyCheck_any B b bs _ h).mono ?_)
  rintro e w1 ⟨rfl, h1, hb1⟩
  obtain ⟨hB, v, hbk, hown, hne⟩ := h1
  have c0 : w1.cell? ⟨b, 0, none⟩ = some (.pointer (some ⟨b, 0, none⟩)) := by rw [Lib.cell_of_heap hbk]; rfl
  have c1 : w1.cell? ⟨b, 1, none⟩ = some v := by rw [Lib.cell_of_heap hbk]; rfl
  have hbs1 := hb1.size
  go_wp2_with (at_builtin; refine wpList_append_own _ rfl _ _ 143 rfl B 5 i0 _ 1 1 Tryz.underlying143 hi hz0 hz1 hz2 rfl (by decide) _ _ _ rfl (World.ownsRow.alloc hown _) ⟨w1.heap.size, 0, none⟩ 1 1 [.int .u8 x] rfl rfl ?c1 ?c2 ?c3 ?c4 ?c5 ?_)
  case c1 =>
    intro j u hj
    match j with
    | 0 => simp at hj; subst hj; simp [Addr.add, go_sem]
    | j + 1 => simp at hj
  case c2 => intro u hu; simp at hu; subst hu; rfl
  case c3 => unfold maxLen; omega
  case c4 => omega
  case c5 => simp; omega
  intro v' w2 hown' hgrow _
  have hlt : b < w1.heap.size := by
    rcases Nat.lt_or_ge b w1.heap.size with h' | h'
    · exact h'
    · simp [Array.getElem?_eq_none h'] at hbk
  have hbk' : (w1.alloc (.cells #[.int .u8 x] 5)).heap[b]? = some (.cells #[.pointer (some ⟨b, 0, none⟩), v] 145 (0, 0)) := (((Below.refl w1.heap.size w1).alloc (Nat.le_refl _) _).block b hlt).trans hbk
  have hb2 : w2.heap[b]? = some (.cells #[.pointer (some ⟨b, 0, none⟩), v] 145 (0, 0)) := by
    rw [hgrow.block b (by simp; omega) (fun e => hne e.symm)]
    exact hbk'
  have d0 : w2.cell? ⟨b, 0, none⟩ = some (.pointer (some ⟨b, 0, none⟩)) := by rw [Lib.cell_of_heap hb2]; rfl
  have d1 : w2.cell? ⟨b, 1, none⟩ = some v := by rw [Lib.cell_of_heap hb2]; rfl
  have f1 : w2.frozen? ⟨b, 1, none⟩ = false := Lib.frozen_of_heap hb2 1
  obtain ⟨ao, n', cap, rfl⟩ : ∃ ao n' cap, v' = .slice ao n' cap := by
    rcases hown'.2 with ⟨hv, _⟩ | ⟨g, cap, cur, hv, _⟩
    · exact ⟨_, _, _, hv⟩
    · exact ⟨_, _, _, hv⟩
  go_wp2
  go_ret
  refine ⟨rfl, ?_, ?_⟩
  · exact Lib.BuilderAt.put (T := 145) (e := 5) hB hb2 (bs' := bs ++ [.int .u8 x]) (by simpa using hown') (by decide)
  · exact ((hb1.alloc (by omega) _).grown hgrow (by simp; omega) (fun k hk => (hown.lt k hk).1)).setCell (p := ⟨b, 1, none⟩) hB _
theorem copyCheck2_any (B b : Nat) (bs : List Value) (w : World) (h : Lib.IsBuilder 145 5 B b bs w) :
    Calls Tryz.prog 198 #[.pointer (some ⟨b, 0, none⟩)] w fun e w' => e = .returned (.tuple #[]) ∧ Lib.BuilderAt 145 5 B b (.pointer (some ⟨b, 0, none⟩)) bs w' ∧ Below B w w' ∧ (∀ q, q ≠ b → w'.heap[q]? = w.heap[q]?) ∧ (∀ v, (∃ p, w'.heap[b]? = some (.cells #[p, v] 145 (0, 0))) → ∃ p, w.heap[b]? = some (.cells #[p, v] 145 (0, 0))) := by
  rcases h with h | h
  · refine (copyCheck_fresh b w h.cell0 h.shape h.frozen0).mono ?_
    rintro e w' ⟨rfl, rfl⟩
    refine ⟨rfl, h.used _, (Below.refl B w).setCell (p := ⟨b, 0, none⟩) h.1 _, fun q hq => Below.heap_setCell _ _ _ _ (fun e => hq e), ?_⟩
    rintro v ⟨p, hp⟩
    obtain ⟨_, v0, hbk, _⟩ := h
    refine ⟨.pointer none, ?_⟩
    rw [hbk]
    have : (w.setCell ⟨b, 0, none⟩ (.pointer (some ⟨b, 0, none⟩))).heap[b]? = some (.cells #[.pointer (some ⟨b, 0, none⟩), v0] 145 (0, 0)) := by simp [World.setCell, Array.getElem?_modify, hbk]
    rw [this] at hp
    simp at hp
    rw [hp.2]
  · refine (copyCheck_used b w h.cell0).mono ?_
    rintro e w' ⟨rfl, rfl⟩
    exact ⟨rfl, h, Below.refl B _, fun _ _ => rfl, fun v h => h⟩

set_option maxRecDepth 100000 in
set_option maxHeartbeats 4000000 in
theorem writeByte2_any (B b : Nat) (bs : List Value) (x : Int) (w : World) (h : Lib.IsBuilder 145 5 B b bs w) (hlen : bs.length + 1 ≤ 140737488355328) (hBw : B ≤ w.heap.size) (q : Nat) (hq : q < w.heap.size) (hqb : q ≠ b) (hqv : ∀ p v, w.heap[b]? = some (.cells #[p, v] 145 (0, 0)) → v.ownBlock ≠ some q) :
    Calls Tryz.prog 255 #[.pointer (some ⟨b, 0, none⟩), .int .u8 x] w fun e w' => e = .returned .nilIface ∧ (Lib.BuilderAt 145 5 B b (.pointer (some ⟨b, 0, none⟩)) (bs ++ [.int .u8 x]) w' ∧ Below B w w' ∧ w'.heap[q]? = w.heap[q]?) := by
  obtain ⟨i0, hi, hz0, hz1, hz2⟩ := info_parts infoByte
  go_enter Tryz.func255, Tryz.ntmps255
  go_wp2_with (go_at_call 198; refine (copyCheck2_any B b bs _ h).mono ?_)
  rintro e w1 ⟨rfl, h1, hb1, hoth, hsame⟩
  obtain ⟨hB, v, hbk, hown, hne⟩ := h1
  have hvq : v.ownBlock ≠ some q := by
    obtain ⟨p, hp⟩ := hsame v ⟨_, hbk⟩
    exact hqv p v hp
  have c0 : w1.cell? ⟨b, 0, none⟩ = some (.pointer (some ⟨b, 0, none⟩)) := by rw [Lib.cell_of_heap hbk]; rfl
  have c1 : w1.cell? ⟨b, 1, none⟩ = some v := by rw [Lib.cell_of_heap hbk]; rfl
  have hbs1 := hb1.size
  go_wp2_with (at_builtin; refine wpList_append_own _ rfl _ _ 143 rfl B 5 i0 _ 1 1 Tryz.underlying143 hi hz0 hz1 hz2 rfl (by decide) _ _ _ rfl (World.ownsRow.alloc hown _) ⟨w1.heap.size, 0, none⟩ 1 1 [.int .u8 x] rfl rfl ?c1 ?c2 ?c3 ?c4 ?c5 ?_)
  case c1 =>
    intro j u hj
    match j with
    | 0 => simp at hj; subst hj; simp [Addr.add, go_sem]
    | j + 1 => simp at hj
  case c2 => intro u hu; simp at hu; subst hu; rfl
  case c3 => unfold maxLen; omega
  case c4 => omega
  case c5 => simp; omega
  intro v' w2 hown' hgrow _
  have hlt : b < w1.heap.size := by
    rcases Nat.lt_or_ge b w1.heap.size with h' | h'
    · exact h'
    · simp [Array.getElem?_eq_none h'] at hbk
  have hbk' : (w1.alloc (.cells #[.int .u8 x] 5)).heap[b]? = some (.cells #[.pointer (some ⟨b, 0, none⟩), v] 145 (0, 0)) := (((Below.refl w1.heap.size w1).alloc (Nat.le_refl _) _).block b hlt).trans hbk
  have hb2 : w2.heap[b]? = some (.cells #[.pointer (some ⟨b, 0, none⟩), v] 145 (0, 0)) := by
    rw [hgrow.block b (by simp; omega) (fun e => hne e.symm)]
    exact hbk'
  have d0 : w2.cell? ⟨b, 0, none⟩ = some (.pointer (some ⟨b, 0, none⟩)) := by rw [Lib.cell_of_heap hb2]; rfl
  have d1 : w2.cell? ⟨b, 1, none⟩ = some v := by rw [Lib.cell_of_heap hb2]; rfl
  have f1 : w2.frozen? ⟨b, 1, none⟩ = false := Lib.frozen_of_heap hb2 1
  obtain ⟨ao, n', cap, rfl⟩ : ∃ ao n' cap, v' = .slice ao n' cap := by
    rcases hown'.2 with ⟨hv, _⟩ | ⟨g, cap, cur, hv, _⟩
    · exact ⟨_, _, _, hv⟩
    · exact ⟨_, _, _, hv⟩
  go_wp2
  go_ret
  refine ⟨rfl, ?_, ?_, ?_⟩
  · exact Lib.BuilderAt.put (T := 145) (e := 5) hB hb2 (bs' := bs ++ [.int .u8 x]) (by simpa using hown') (by decide)
  · exact ((hb1.alloc (by omega) _).grown hgrow (by simp; omega) (fun k hk => (hown.lt k hk).1)).setCell (p := ⟨b, 1, none⟩) hB _
  · refine (Below.heap_setCell _ _ _ _ (fun e => hqb e)).trans ((hgrow.block q (by have := hb1.size; simp; omega) (fun e => hvq e.symm)).trans ?_)
    exact (((Below.refl w1.heap.size w1).alloc (Nat.le_refl _) _).block q (by have := hb1.size; omega)).trans (hoth q hqb)

/-- A builder that holds these octets. -/
def Bld (W : World) (B b : Nat) (l : List UInt8) : Prop := Lib.IsBuilder 145 5 B b (byteCells l) W
theorem Bld.keep {W W' : World} {B b C : Nat} {l : List UInt8} (h : Bld W B b l) (hb : Below C W W') (hC : W.heap.size ≤ C) : Bld W' B b l := by
  have key : ∀ p, Lib.BuilderAt 145 5 B b p (byteCells l) W → Lib.BuilderAt 145 5 B b p (byteCells l) W' := by
    rintro p ⟨h1, v, h2, h3, h4⟩
    have hlt : b < W.heap.size := (Array.getElem?_eq_some_iff.1 h2).1
    refine ⟨h1, v, (hb.block b (by omega)).trans h2, h3.kept (row := none) ⟨hb.os, hb.tape, hb.output, hb.size, fun q hq _ => hb.block q (by omega)⟩ ?_, h4⟩
    cases h : Value.ownBlock v with
    | none => exact .inl rfl
    | some _ => exact .inr (by simp)
  exact Or.imp (key _) (key _) h
theorem Bld.written {W' : World} {B b : Nat} {l r : List UInt8} {p : Value} (h : Lib.BuilderAt 145 5 B b p (byteCells l ++ Lib.strCells ⟨r.toArray⟩) W') (hp : p = .pointer (some ⟨b, 0, none⟩)) : Bld W' B b (l ++ r) := by
  subst hp
  unfold Bld
  rw [byteCells_app]
  exact .inr h
theorem Bld.fresh {W : World} {B b : Nat} (hb : b = W.heap.size) (hB : B ≤ b) : Bld (W.alloc (.cells #[.pointer none, .slice none 0 0] 145)) B b [] := by
  subst hb
  exact .inl ⟨hB, _, heap_alloc_new W _, World.ownsRow_nil _ _ _ _, by simp [Value.ownBlock]⟩
theorem Bld.wrote {W' : World} {B b : Nat} {l : List UInt8} {c : UInt8} {p : Value} (h : Lib.BuilderAt 145 5 B b p (byteCells l ++ [.int .u8 (c.toNat : Int)]) W') (hp : p = .pointer (some ⟨b, 0, none⟩)) : Bld W' B b (l ++ [c]) := by
  subst hp
  unfold Bld
  rw [byteCells_app]
  exact .inr h
theorem byteCells_len (l : List UInt8) : (byteCells l).length = l.length := by simp [byteCells]
end Go.Proofs.YtmgcmiflbjhakaaGreatDoor

/- Contracts of the library that this program comes to, laid at its own numbers by the kit's own programs (lay-shelf.mjs, lay-plain.mjs). -/
namespace Go.Proofs
open Go.Shelf
def Tryz.lays165_ren : Go.Shelf.Ren := ⟨fun | 165 => 137 | 240 => 198 | 241 => 199 | 276 => 241 | 277 => 242 | n => n, fun | 70 => 142 | 3 => 3 | 0 => 0 | 4 => 4 | 9 => 9 | 20 => 20 | 72 => 145 | 37 => 143 | 164 => 222 | 5 => 5 | n => n, fun | n => n⟩
theorem Tryz.lays165 : Go.Proofs.Lays.n165 Tryz.prog Tryz.lays165_ren := {
  mixed := by kernel_rfl
  f165 := Tryz.func137.trans (congrArg some (by kernel_rfl))
  f240 := Tryz.func198.trans (congrArg some (by kernel_rfl))
  f241 := Tryz.func199.trans (congrArg some (by kernel_rfl))
  f276 := Tryz.func241.trans (congrArg some (by kernel_rfl))
  f277 := Tryz.func242.trans (congrArg some (by kernel_rfl))
  t0 := Tryz.underlying0
  a0 := Tryz.isAgg0
  z0 := Tryz.sizeOf0
  v0 := Tryz.zeroValue0
  t3 := Tryz.underlying3
  a3 := Tryz.isAgg3
  z3 := Tryz.sizeOf3
  v3 := Tryz.zeroValue3
  t4 := Tryz.underlying4
  a4 := Tryz.isAgg4
  z4 := Tryz.sizeOf4
  v4 := Tryz.zeroValue4
  t9 := Tryz.underlying9
  a9 := Tryz.isAgg9
  z9 := Tryz.sizeOf9
  v9 := Tryz.zeroValue9
  t20 := Tryz.underlying20
  a20 := Tryz.isAgg20
  z20 := Tryz.sizeOf20
  v20 := Tryz.zeroValue20
  t37 := Tryz.underlying143
  a37 := Tryz.isAgg143
  z37 := Tryz.sizeOf143
  v37 := Tryz.zeroValue143
  t70 := Tryz.underlying142
  a70 := Tryz.isAgg142
  z70 := Tryz.sizeOf142
  v70 := Tryz.zeroValue142
  t72 := Tryz.underlying145
  a72 := Tryz.isAgg145
  z72 := Tryz.sizeOf145
  v72 := Tryz.zeroValue145
  t164 := Tryz.underlying222
  a164 := Tryz.isAgg222
  z164 := Tryz.sizeOf222
  v164 := Tryz.zeroValue222 }
theorem Tryz.Builder_Extra_165 : Builder.Extra Tryz.prog Tryz.lays165_ren := {
  sizeBuilder := by kernel_rfl
  liesBuilder := by kernel_rfl
  t5 := Tryz.underlying5
  a5 := Tryz.isAgg5
  z5 := Tryz.sizeOf5
  v5 := Tryz.zeroValue5
  infoByte := by kernel_rfl
  cellsByte := by kernel_rfl
  sizeByte := by kernel_rfl
  neB5 := by decide }
open Go.RowKit in
theorem Tryz.Builder_Grow_fresh (B b n : Nat) (w : World) (hB : B ≤ b) (hbk : w.heap[b]? = some (.cells #[.pointer none, .slice none 0 0] 145 (0, 0))) (hBw : B ≤ w.heap.size) (hn : n ≤ 281474976710656) :
    Calls Tryz.prog 137 #[.pointer (some ⟨b, 0, none⟩), .int .i64 n] w fun e w' => e = .returned (.tuple #[]) ∧ (Lib.BuilderAt 145 5 B b (.pointer (some ⟨b, 0, none⟩)) [] w' ∧ Below B w w') := Any.Builder_Grow_fresh Tryz.lays165 Tryz.Builder_Extra_165 B b n w hB hbk hBw hn

end Go.Proofs

/- strings.ToLower at the two words that are wanted. -/
namespace Go.Proofs.YtmgcmiflbjhakaaGreatDoor
open Go.RowKit Go.Lib

set_option maxRecDepth 100000 in
set_option maxHeartbeats 4000000 in
theorem lower_eq (w : World) : Calls Tryz.prog 225 #[.string ⟨#[61]⟩] w fun e w' => e = .returned (.string ⟨#[61]⟩) ∧ Below w.heap.size w w' := by
  go_enter Tryz.func225, Tryz.ntmps225
  go_wp2_with (fail)
  go_loopw [3, 4, 5] (fun a b v wr => ∃ j : Nat, j ≤ 1 ∧ v = .int .i64 j ∧ a = .bool true ∧ b = .bool false ∧ w = wr) (fun _ _ v _ => 1 - (intOf v).toNat)
  case atStart => exact ⟨0, by omega, rfl, rfl, rfl, rfl⟩
  case round =>
    obtain ⟨j, hj, rfl, rfl, rfl, rfl⟩ := hrel
    rcases (show j = 0 ∨ j = 1 by omega) with rfl | rfl
    · clear hj
      go_wp2_with (fail)
      go_roundw
      case rel => exact ⟨1, by omega, rfl, rfl, rfl, by first | rfl | trivial⟩
      case measure => simp [intOf]
    · clear hj
      go_wp2_with (fail)
      go_ret
      exact ⟨rfl, Below.refl _ _⟩

set_option maxRecDepth 100000 in
set_option maxHeartbeats 4000000 in
theorem lower_or (w : World) : Calls Tryz.prog 225 #[.string ⟨#[79, 82]⟩] w fun e w' => e = .returned (.string ⟨#[111, 114]⟩) ∧ Below w.heap.size w w' := by
  go_enter Tryz.func225, Tryz.ntmps225
  go_wp2_with (fail)
  go_loopw [3, 4, 5] (fun a b v wr => ∃ (j : Nat) (u : Bool), j ≤ 2 ∧ (j = 2 → u = true) ∧ v = .int .i64 j ∧ a = .bool true ∧ b = .bool u ∧ w = wr) (fun _ _ v _ => 2 - (intOf v).toNat)
  case atStart => exact ⟨0, false, by omega, (fun h => by cases h), rfl, rfl, rfl, rfl⟩
  case round =>
    obtain ⟨j, u, hj, hu, rfl, rfl, rfl, rfl⟩ := hrel
    rcases (show j = 0 ∨ j = 1 ∨ j = 2 by omega) with rfl | rfl | rfl
    · clear hj hu
      cases u <;>
        (go_wp2_with (fail)
         go_roundw
         case rel => exact ⟨1, true, by omega, (fun _ => rfl), rfl, rfl, rfl, by first | rfl | trivial⟩
         case measure => simp [intOf])
    · clear hj hu
      cases u <;>
        (go_wp2_with (fail)
         go_roundw
         case rel => exact ⟨2, true, by omega, (fun _ => rfl), rfl, rfl, rfl, by first | rfl | trivial⟩
         case measure => simp [intOf])
    · obtain rfl := hu rfl
      clear hj hu
      go_wp2_with (go_at_call 137; refine (Tryz.Builder_Grow_fresh w.heap.size w.heap.size 2 _ (Nat.le_refl _) (by show (w.heap.push _)[w.heap.size]? = _; simp) (by simp) (by omega)).mono ?_; rintro e w1 ⟨rfl, hB1, hb1⟩; have HB1 : Hid (Below w.heap.size w w1 ∧ Lib.BuilderAt 145 5 w.heap.size w.heap.size (.pointer (some ⟨w.heap.size, 0, none⟩)) [] w1) := ⟨((Below.refl _ _).alloc (Nat.le_refl _) _).trans hb1, hB1⟩; clear hB1 hb1)
      go_loopw [8, 9] (fun p v wr => ∃ j : Nat, j ≤ 2 ∧ p = .int .i64 j ∧ v = .int .i64 j ∧ Below w.heap.size w wr ∧ Hid (Lib.BuilderAt 145 5 w.heap.size w.heap.size (.pointer (some ⟨w.heap.size, 0, none⟩)) (Lib.byteCells ([111, 114].take j)) wr)) (fun _ v _ => 2 - (intOf v).toNat)
      case atStart => exact ⟨0, by omega, rfl, rfl, HB1.out.1, HB1.out.2⟩
      case round =>
        obtain ⟨j, hj, rfl, rfl, hb, HB⟩ := hrel
        have hbs := hb.size
        rcases (show j = 0 ∨ j = 1 ∨ j = 2 by omega) with rfl | rfl | rfl
        · clear hj
          go_wp2_with (go_at_call 255; refine (writeByte_any w.heap.size w.heap.size _ _ _ (.inr HB.out) (by simp [Lib.byteCells]) hbs).mono ?_; rintro e w2 ⟨rfl, hB2, hb2⟩; have HB2 : Hid (Below w.heap.size w w2 ∧ Lib.BuilderAt 145 5 w.heap.size w.heap.size (.pointer (some ⟨w.heap.size, 0, none⟩)) (Lib.byteCells ([111, 114].take 1)) w2) := ⟨hb.trans hb2, hB2⟩; clear hB2 hb2)
          go_roundw
          case rel => exact ⟨1, by omega, rfl, rfl, HB2.out.1, HB2.out.2⟩
          case measure => simp [intOf]
        · clear hj
          go_wp2_with (go_at_call 255; refine (writeByte_any w.heap.size w.heap.size _ _ _ (.inr HB.out) (by simp [Lib.byteCells]) hbs).mono ?_; rintro e w2 ⟨rfl, hB2, hb2⟩; have HB2 : Hid (Below w.heap.size w w2 ∧ Lib.BuilderAt 145 5 w.heap.size w.heap.size (.pointer (some ⟨w.heap.size, 0, none⟩)) (Lib.byteCells ([111, 114].take 2)) w2) := ⟨hb.trans hb2, hB2⟩; clear hB2 hb2)
          go_roundw
          case rel => exact ⟨2, by omega, rfl, rfl, HB2.out.1, HB2.out.2⟩
          case measure => simp [intOf]
        · clear hj
          go_wp2_with (go_at_call 139; refine (Tryz.Builder_String_any w.heap.size w.heap.size [111, 114] _ (.inr HB.out) hbs).mono ?_; rintro e w2 ⟨rfl, hb2⟩; have HB2 : Hid (Below w.heap.size w w2) := hb.trans hb2; clear hb2)
          go_ret
          exact ⟨rfl, HB2.out⟩
end Go.Proofs.YtmgcmiflbjhakaaGreatDoor
