import Derived.Test.YtepnfocgdcbadaaGreatDoorW09
import Derived.Test.YtepnfocgdcbadaaGreatDoorW07
import Derived.Lib.SmallJoins
import Derived.Laws.OwnMore
import Derived.Lib.AppendStr
import Derived.Lib.UnsafeStr
import Derived.Lib.Builder
import Derived.Lib.Strings
import Derived.Lib.Slices
import Derived.Lib.Walk
import Derived.Laws.Externs
import Derived.Deep.RegionWith

/- The parser: a sum, an and, an or, a not. -/
namespace Go.Proofs.YtepnfocgdcbadaaGreatDoor
open Go.RowKit Go.Lib

set_option maxRecDepth 100000 in
set_option maxHeartbeats 4000000 in
theorem psum_any {N : Nat} (g : Nat) (A : Option Addr) (c : Nat) (l : List Tn) (at' ask : Nat) (failed : Bool) (t t3 : Ex) (at2 at3 : Nat) (failed2 failed3 : Bool) {N2 : Nat} (w : World) (hz : Pz w g A c l at' ask failed)
    (h1 : ∀ W, Pz W g A c l at' ask failed → Calls Tryz.prog 70 #[.pointer (some ⟨g, 0, none⟩)] W (Res W g A c l N (fun _ => False) t at2 ask failed2))
    (h2 : ∀ (Q : Nat → Prop) (W : World) (u : Value), (∀ x, Q x → g < x) → Pz W g A c l at2 ask failed2 → Tr W Q N t u → Calls Tryz.prog 88 #[.pointer (some ⟨g, 0, none⟩), EVt t u] W (Res W g A c l N2 Q t3 at3 ask failed3)) :
    Calls Tryz.prog 90 #[.pointer (some ⟨g, 0, none⟩)] w (Res w g A c l N2 (fun _ => False) t3 at3 ask failed3) := by
  have HZ := Lib.hid hz
  have hgl := hz.lt
  have HX := Lib.hid (And.intro h1 h2)
  clear hz h1 h2
  have hne0 : ¬ w.heap.size = g := by omega
  go_enter Tryz.func90, Tryz.ntmps90
  go_wp2_with (first
    | (go_at_call 70; refine (HX.out.1 _ (HZ.out.alloc _)).mono ?_; rintro e w1 ⟨u1, rfl, ht1, hp1, hg1⟩; obtain ⟨B1, q1, rfl, _⟩ := ht1.form; unfold EVt; have hc1 := (gcell hg1).1; have hf1 := (gcell hg1).2; have hy1 := hg1.size; (try simp at hy1); have hz1_0 : w.heap.size < w1.heap.size := (by omega); have HP1 := Lib.hid (And.intro ht1 (And.intro hp1 hg1)); clear ht1 hp1 hg1; have HG1 : Hid (w.grownBy w1 (some g)) := grow_trans (grow_alloc _ _ _) HP1.out.2.2)
    | (go_at_call 88; refine (HX.out.2 (fun b => w.heap.size < b) _ _ (fun x (h : w.heap.size < x) => by omega) HP1.out.2.1 (HP1.out.1.keep (fun _ _ _ => rfl) (fun b h _ => h.elim False.elim (fun h => by simp at h; omega)))).mono ?_; rintro e w2 ⟨u2, rfl, ht2, hp2, hg2⟩; obtain ⟨B2, q2, rfl, _⟩ := ht2.form; unfold EVt; have hc2 := (gcell hg2).1; have hf2 := (gcell hg2).2; have hy2 := hg2.size; (try simp at hy2); have hz2_0 : w.heap.size < w2.heap.size := (by omega); have HP2 := Lib.hid (And.intro ht2 (And.intro hp2 hg2)); clear ht2 hp2 hg2))
  refine bodyPost_ret (v := .agg #[.string t3.op, .int .i64 t3.x.k, .int .i64 t3.x.i, .string t3.x.s, .string t3.s, .slice B2 t3.l.length q2]) (by simp [results, Tryz.results90, go_sem, *]) rfl ?_
  exact Res.store (Q := (fun _ => False)) (R := fun b => w.heap.size < b) (HP2.out.1.keep (fun _ _ _ => rfl) (fun b h _ => h.elim id (fun h => by omega))) HP2.out.2.1 (grow_trans HG1.out HP2.out.2.2) (b := w.heap.size) (Nat.le_refl _) hgl (by omega) (fun x h _ => .inr (Nat.le_of_lt h)) _ _ _ _ _ _

set_option maxRecDepth 100000 in
set_option maxHeartbeats 4000000 in
theorem pand_any {N : Nat} (g : Nat) (A : Option Addr) (c : Nat) (l : List Tn) (at' ask : Nat) (failed : Bool) (t t3 : Ex) (at2 at3 : Nat) (failed2 failed3 : Bool) {N2 : Nat} (w : World) (hz : Pz w g A c l at' ask failed)
    (h1 : ∀ W, Pz W g A c l at' ask failed → Calls Tryz.prog 50 #[.pointer (some ⟨g, 0, none⟩)] W (Res W g A c l N (fun _ => False) t at2 ask failed2))
    (h2 : ∀ (Q : Nat → Prop) (W : World) (u : Value), (∀ x, Q x → g < x) → Pz W g A c l at2 ask failed2 → Tr W Q N t u → Calls Tryz.prog 66 #[.pointer (some ⟨g, 0, none⟩), EVt t u] W (Res W g A c l N2 Q t3 at3 ask failed3)) :
    Calls Tryz.prog 67 #[.pointer (some ⟨g, 0, none⟩)] w (Res w g A c l N2 (fun _ => False) t3 at3 ask failed3) := by
  have HZ := Lib.hid hz
  have hgl := hz.lt
  have HX := Lib.hid (And.intro h1 h2)
  clear hz h1 h2
  have hne0 : ¬ w.heap.size = g := by omega
  go_enter Tryz.func67, Tryz.ntmps67
  go_wp2_with (first
    | (go_at_call 50; refine (HX.out.1 _ (HZ.out.alloc _)).mono ?_; rintro e w1 ⟨u1, rfl, ht1, hp1, hg1⟩; obtain ⟨B1, q1, rfl, _⟩ := ht1.form; unfold EVt; have hc1 := (gcell hg1).1; have hf1 := (gcell hg1).2; have hy1 := hg1.size; (try simp at hy1); have hz1_0 : w.heap.size < w1.heap.size := (by omega); have HP1 := Lib.hid (And.intro ht1 (And.intro hp1 hg1)); clear ht1 hp1 hg1; have HG1 : Hid (w.grownBy w1 (some g)) := grow_trans (grow_alloc _ _ _) HP1.out.2.2)
    | (go_at_call 66; refine (HX.out.2 (fun b => w.heap.size < b) _ _ (fun x (h : w.heap.size < x) => by omega) HP1.out.2.1 (HP1.out.1.keep (fun _ _ _ => rfl) (fun b h _ => h.elim False.elim (fun h => by simp at h; omega)))).mono ?_; rintro e w2 ⟨u2, rfl, ht2, hp2, hg2⟩; obtain ⟨B2, q2, rfl, _⟩ := ht2.form; unfold EVt; have hc2 := (gcell hg2).1; have hf2 := (gcell hg2).2; have hy2 := hg2.size; (try simp at hy2); have hz2_0 : w.heap.size < w2.heap.size := (by omega); have HP2 := Lib.hid (And.intro ht2 (And.intro hp2 hg2)); clear ht2 hp2 hg2))
  refine bodyPost_ret (v := .agg #[.string t3.op, .int .i64 t3.x.k, .int .i64 t3.x.i, .string t3.x.s, .string t3.s, .slice B2 t3.l.length q2]) (by simp [results, Tryz.results67, go_sem, *]) rfl ?_
  exact Res.store (Q := (fun _ => False)) (R := fun b => w.heap.size < b) (HP2.out.1.keep (fun _ _ _ => rfl) (fun b h _ => h.elim id (fun h => by omega))) HP2.out.2.1 (grow_trans HG1.out HP2.out.2.2) (b := w.heap.size) (Nat.le_refl _) hgl (by omega) (fun x h _ => .inr (Nat.le_of_lt h)) _ _ _ _ _ _

set_option maxRecDepth 100000 in
set_option maxHeartbeats 4000000 in
theorem por_any {N : Nat} (g : Nat) (A : Option Addr) (c : Nat) (l : List Tn) (at' ask : Nat) (failed : Bool) (t t3 : Ex) (at2 at3 : Nat) (failed2 failed3 : Bool) {N2 : Nat} (w : World) (hz : Pz w g A c l at' ask failed)
    (h1 : ∀ W, Pz W g A c l at' ask failed → Calls Tryz.prog 50 #[.pointer (some ⟨g, 0, none⟩)] W (Res W g A c l N (fun _ => False) t at2 ask failed2))
    (h2 : ∀ (Q : Nat → Prop) (W : World) (u : Value), (∀ x, Q x → g < x) → Pz W g A c l at2 ask failed2 → Tr W Q N t u → Calls Tryz.prog 49 #[.pointer (some ⟨g, 0, none⟩), EVt t u] W (Res W g A c l N2 Q t3 at3 ask failed3)) :
    Calls Tryz.prog 33 #[.pointer (some ⟨g, 0, none⟩)] w (Res w g A c l N2 (fun _ => False) t3 at3 ask failed3) := by
  have HZ := Lib.hid hz
  have hgl := hz.lt
  have HX := Lib.hid (And.intro h1 h2)
  clear hz h1 h2
  have hne0 : ¬ w.heap.size = g := by omega
  go_enter Tryz.func33, Tryz.ntmps33
  go_wp2_with (first
    | (go_at_call 50; refine (HX.out.1 _ (HZ.out.alloc _)).mono ?_; rintro e w1 ⟨u1, rfl, ht1, hp1, hg1⟩; obtain ⟨B1, q1, rfl, _⟩ := ht1.form; unfold EVt; have hc1 := (gcell hg1).1; have hf1 := (gcell hg1).2; have hy1 := hg1.size; (try simp at hy1); have hz1_0 : w.heap.size < w1.heap.size := (by omega); have HP1 := Lib.hid (And.intro ht1 (And.intro hp1 hg1)); clear ht1 hp1 hg1; have HG1 : Hid (w.grownBy w1 (some g)) := grow_trans (grow_alloc _ _ _) HP1.out.2.2)
    | (go_at_call 49; refine (HX.out.2 (fun b => w.heap.size < b) _ _ (fun x (h : w.heap.size < x) => by omega) HP1.out.2.1 (HP1.out.1.keep (fun _ _ _ => rfl) (fun b h _ => h.elim False.elim (fun h => by simp at h; omega)))).mono ?_; rintro e w2 ⟨u2, rfl, ht2, hp2, hg2⟩; obtain ⟨B2, q2, rfl, _⟩ := ht2.form; unfold EVt; have hc2 := (gcell hg2).1; have hf2 := (gcell hg2).2; have hy2 := hg2.size; (try simp at hy2); have hz2_0 : w.heap.size < w2.heap.size := (by omega); have HP2 := Lib.hid (And.intro ht2 (And.intro hp2 hg2)); clear ht2 hp2 hg2))
  refine bodyPost_ret (v := .agg #[.string t3.op, .int .i64 t3.x.k, .int .i64 t3.x.i, .string t3.x.s, .string t3.s, .slice B2 t3.l.length q2]) (by simp [results, Tryz.results33, go_sem, *]) rfl ?_
  exact Res.store (Q := (fun _ => False)) (R := fun b => w.heap.size < b) (HP2.out.1.keep (fun _ _ _ => rfl) (fun b h _ => h.elim id (fun h => by omega))) HP2.out.2.1 (grow_trans HG1.out HP2.out.2.2) (b := w.heap.size) (Nat.le_refl _) hgl (by omega) (fun x h _ => .inr (Nat.le_of_lt h)) _ _ _ _ _ _

set_option maxRecDepth 100000 in
set_option maxHeartbeats 4000000 in
theorem pnot_any {N : Nat} (g : Nat) (A : Option Addr) (c : Nat) (l : List Tn) (at' ask : Nat) (failed : Bool) (tn : Tn) (t t3 : Ex) (at2 at3 : Nat) (failed2 failed3 : Bool) {N2 : Nat} (w : World) (hz : Pz w g A c l at' ask failed) (hl : l.length ≤ 100000) (hx : Nx l at' failed tn) (hno : isB tn ⟨#[78, 79, 84]⟩ = false)
    (h1 : ∀ W, Pz W g A c l at' ask failed → Calls Tryz.prog 70 #[.pointer (some ⟨g, 0, none⟩)] W (Res W g A c l N (fun _ => False) t at2 ask failed2))
    (h2 : ∀ (Q : Nat → Prop) (W : World) (u : Value), (∀ x, Q x → g < x) → Pz W g A c l at2 ask failed2 → Tr W Q N t u → Calls Tryz.prog 69 #[.pointer (some ⟨g, 0, none⟩), EVt t u] W (Res W g A c l N2 Q t3 at3 ask failed3)) :
    Calls Tryz.prog 50 #[.pointer (some ⟨g, 0, none⟩)] w (Res w g A c l N2 (fun _ => False) t3 at3 ask failed3) := by
  have HZ := Lib.hid hz
  have hgl := hz.lt
  have HX := Lib.hid (And.intro h1 h2)
  have HN := Lib.hid (And.intro hx hno)
  clear hz h1 h2 hx hno
  have hne0 : ¬ w.heap.size = g := by omega
  have hmf : ∀ (fn : Fn) (first cap : Array Value) (w : World), (Instr.makeFunc fn first cap).run Tryz.prog w = .ok (.func fn first cap) w := fun _ _ _ _ => rfl
  go_enter Tryz.func50, Tryz.ntmps50
  go_wp2_with (first
    | (go_at_call 68; refine (take_no g A c l at' ask failed _ 1 [⟨#[78, 79, 84]⟩] tn _ ((HZ.out.alloc _).alloc _) hl HN.out.1 (wds1 _ (by simp) ⟨#[78, 79, 84]⟩) (by simp) (all1 HN.out.2)).mono ?_; rintro e w0 ⟨rfl, hb0⟩; have HB0 : Hid (Below w.heap.size w w0) := (((Below.refl _ _).alloc (Nat.le_refl _) _).alloc (by simp) _).trans (hb0.mono (by simp; omega)); have HD0 : Hid (Below (w.heap.size + 1) (w.alloc (.cells #[.string ⟨#[]⟩, .int .i64 0, .int .i64 0, .string ⟨#[]⟩, .string ⟨#[]⟩, .slice none 0 0] 26)) w0) := ((Below.refl _ _).alloc (by simp) _).trans (hb0.mono (by simp)); have hs0 : w.heap.size + 1 ≤ w0.heap.size := (by have := HD0.out.size; simp at this; omega); clear hb0)
    | (go_at_call 70; refine (HX.out.1 _ (HZ.out.below HB0.out)).mono ?_; rintro e w1 ⟨u1, rfl, ht1, hp1, hg1⟩; obtain ⟨B1, q1, rfl, _⟩ := ht1.form; unfold EVt; have hc1 := (gcell hg1).1; have hf1 := (gcell hg1).2; have hy1 := hg1.size; (try simp at hy1); have hz1_0 : w.heap.size < w1.heap.size := (by omega); have HP1 := Lib.hid (And.intro ht1 (And.intro hp1 hg1)); clear ht1 hp1 hg1; have HG1 : Hid (w.grownBy w1 (some g)) := grow_trans (grow_below HB0.out _) HP1.out.2.2)
    | (go_at_call 69; refine (HX.out.2 (fun b => w.heap.size < b) _ _ (fun x (h : w.heap.size < x) => by omega) HP1.out.2.1 (HP1.out.1.keep (fun _ _ _ => rfl) (fun b h _ => h.elim False.elim (fun h => by omega)))).mono ?_; rintro e w2 ⟨u2, rfl, ht2, hp2, hg2⟩; obtain ⟨B2, q2, rfl, _⟩ := ht2.form; unfold EVt; have hc2 := (gcell hg2).1; have hf2 := (gcell hg2).2; have hy2 := hg2.size; (try simp at hy2); have hz2_0 : w.heap.size < w2.heap.size := (by omega); have HP2 := Lib.hid (And.intro ht2 (And.intro hp2 hg2)); clear ht2 hp2 hg2; clear hc1 hc2 hf1 hf2; have hbx : w2.heap[w.heap.size]? = some (.cells #[.string ⟨#[]⟩, .int .i64 0, .int .i64 0, .string ⟨#[]⟩, .string ⟨#[]⟩, .slice none 0 0] 26 (0, 0)) := (HP2.out.2.2.block _ (by omega) (fun e => by injection e with e; omega)).trans ((HP1.out.2.2.block _ (by omega) (fun e => by injection e with e; omega)).trans ((HD0.out.block _ (by omega)).trans (alloc_at rfl _))); have EZ := box_cells (t := zT) hbx; have y0 := EZ.c0; have y1 := EZ.c1; have y2 := EZ.c2; have y3 := EZ.c3; have y4 := EZ.c4; have y5 := EZ.c5; have yf := Lib.frozen_of_heap hbx; simp only [Nat.zero_add] at y0 y1 y2 y3 y4 y5; clear EZ))
  refine bodyPost_ret (v := .agg #[.string t3.op, .int .i64 t3.x.k, .int .i64 t3.x.i, .string t3.x.s, .string t3.s, .slice B2 t3.l.length q2]) (by simp [results, Tryz.results50, go_sem, *]) rfl ?_
  exact Res.store (Q := (fun _ => False)) (R := fun b => w.heap.size < b) (HP2.out.1.keep (fun _ _ _ => rfl) (fun b h _ => h.elim id (fun h => by omega))) HP2.out.2.1 (grow_trans HG1.out HP2.out.2.2) (b := w.heap.size) (Nat.le_refl _) hgl (by omega) (fun x h _ => .inr (Nat.le_of_lt h)) _ _ _ _ _ _

end Go.Proofs.YtepnfocgdcbadaaGreatDoor

/- What is written is cut as it was: plain facts, no walk. -/
namespace Go.Proofs.YtepnfocgdcbadaaGreatDoor
open Go.RowKit Go.Lib

def Tk.may (t : Tk) : Bool := tmayB t.k ⟨t.s.toArray⟩
/-- A token as it is written. -/
def tkO (t : Tk) : List UInt8 := if t.k = 3 then 39 :: (dbl t.s ++ [39]) else t.s
/-- What may stand behind a token: nothing, or a blank. -/
def After (r : List UInt8) : Prop := ∀ c, r.head? = some c → blankB c = true
theorem blank_is {c : UInt8} (h : blankB c = true) : c = 32 ∨ c = 10 := by
  have := List.contains_iff_mem.1 h
  simpa using this
theorem After.nil : After [] := fun c h => by cases h
theorem After.cons {c : UInt8} (h : blankB c = true) (r : List UInt8) : After (c :: r) := fun d hd => by simp at hd; rw [← hd]; exact h
theorem After.q {r : List UInt8} (h : After r) : r.head? ≠ some 39 := fun e => by rcases blank_is (h 39 e) with h | h <;> exact absurd h (by decide)
theorem After.no {r : List UInt8} (h : After r) (q : UInt8 → Bool) (h1 : q 32 = false) (h2 : q 10 = false) : r.takeWhile q = [] := by
  cases r with
  | nil => rfl
  | cons c r =>
    rw [List.takeWhile_cons]
    rcases blank_is (h c rfl) with e | e
    · rw [e, h1]; rfl
    · rw [e, h2]; rfl
theorem tw_app {q : UInt8 → Bool} {r : List UInt8} : ∀ (l : List UInt8), r.takeWhile q = [] → (l ++ r).takeWhile q = l.takeWhile q
  | [], h => h
  | c :: l, h => by
    rw [List.cons_append, List.takeWhile_cons, List.takeWhile_cons, tw_app l h]
theorem par_32 : parB 32 = false ∧ parB 10 = false := by decide
theorem dig_32 : digB 32 = false ∧ digB 10 = false := by decide
theorem qscan_app : ∀ (n : Nat) (l x t b : List UInt8), l.length ≤ n → qscan l = some (x, t) → (t = [] → b.head? ≠ some 39) → qscan (l ++ b) = some (x, t ++ b) := by
  intro n l x t b _ h hb
  obtain ⟨h1, h2⟩ := qscan_some _ l x t (Nat.le_refl _) h
  rw [h1, List.append_assoc, List.cons_append]
  refine qscan_dbl x (t ++ b) ?_
  cases t with
  | nil => exact hb rfl
  | cons c t => simpa using h2
theorem qscan_none_app : ∀ (n : Nat) (l b : List UInt8), l.length ≤ n → (∀ c ∈ b, c ≠ 39) → qscan l = none → qscan (l ++ b) = none
  | _, [], b, _, hb, _ => qscan_free b fun k e => hb 39 (List.mem_of_getElem? e) rfl
  | 0, _ :: _, _, hn, _, _ => by simp at hn
  | n + 1, c :: l, b, hn, hb, h => by
    by_cases hc : c = 39
    · subst hc
      cases l with
      | nil => simp [qscan] at h
      | cons d l =>
        by_cases hd : d = 39
        · subst hd
          rw [qscan_two] at h
          have h' : qscan l = none := by
            cases hq : qscan l with
            | none => rfl
            | some y => rw [hq] at h; cases h
          rw [List.cons_append, List.cons_append, qscan_two, qscan_none_app n l b (by simp at hn; omega) hb h']
          rfl
        · rw [qscan_end (by simpa using hd)] at h
          cases h
    · rw [qscan_other hc] at h
      have h' : qscan l = none := by
        cases hq : qscan l with
        | none => rfl
        | some y => rw [hq] at h; cases h
      rw [List.cons_append, qscan_other hc, qscan_none_app n l b (by simp at hn; omega) hb h']
      rfl
theorem fst_app {x b : List UInt8} {t : Tk} {n : Nat} (h : fst x = some (t, n)) (hb : After b) : fst (x ++ b) = some (t, n) := by
  obtain ⟨hn1, hn2⟩ := fst_pos h
  cases x with
  | nil => cases h
  | cons c r =>
    have hp := tw_app (q := parB) r (hb.no parB par_32.1 par_32.2)
    have hd := tw_app (q := digB) r (hb.no digB dig_32.1 dig_32.2)
    have lp := (List.takeWhile_sublist parB (l := r)).length_le
    have ld := (List.takeWhile_sublist digB (l := r)).length_le
    rw [List.cons_append]
    unfold fst at h ⊢
    simp only at h ⊢
    by_cases h39 : c = 39
    · rw [if_pos h39] at h ⊢
      cases hq : qscan r with
      | none => rw [hq] at h; cases h
      | some y =>
        obtain ⟨y1, y2⟩ := y
        rw [hq] at h
        rw [qscan_app _ r y1 y2 b (Nat.le_refl _) hq (fun _ => hb.q)]
        simp only at h ⊢
        split at h
        · rename_i hm
          rw [if_pos hm]
          simp only [Option.some.injEq, Prod.mk.injEq] at h
          rw [← h.1, ← h.2]
          simp
          omega
        · cases h
    · rw [if_neg h39] at h ⊢
      rw [hp, hd]
      by_cases hl : letB c = true
      · rw [if_pos hl] at h ⊢
        split at h
        · rename_i hz
          rw [if_pos hz]
          simp only [Option.some.injEq, Prod.mk.injEq] at h
          rw [← h.1, ← h.2]
          have e : (c :: (r ++ b)).take (1 + (r.takeWhile parB).length) = (c :: r).take (1 + (r.takeWhile parB).length) := by
            rw [← List.cons_append, List.take_append_of_le_length (by simp; omega)]
          rw [e]
        · cases h
      · rw [if_neg hl] at h ⊢
        by_cases hg : digB c = true
        · rw [if_pos hg] at h ⊢
          split at h
          · rename_i hz
            rw [if_pos hz]
            simp only [Option.some.injEq, Prod.mk.injEq] at h
            rw [← h.1, ← h.2]
            have e : (c :: (r ++ b)).take (1 + (r.takeWhile digB).length) = (c :: r).take (1 + (r.takeWhile digB).length) := by
              rw [← List.cons_append, List.take_append_of_le_length (by simp; omega)]
            rw [e]
          · cases h
        · rw [if_neg hg] at h ⊢
          exact h
theorem fst_none_app {x b : List UInt8} (hx : x ≠ []) (h : fst x = none) (hb : ∀ c ∈ b, blankB c = true) : fst (x ++ b) = none := by
  have ha : After b := fun c hc => hb c (List.mem_of_mem_head? hc)
  have hq39 : ∀ c ∈ b, c ≠ 39 := fun c hc e => by subst e; exact absurd (hb 39 hc) (by decide)
  cases x with
  | nil => exact absurd rfl hx
  | cons c r =>
    have hp := tw_app (q := parB) r (ha.no parB par_32.1 par_32.2)
    have hd := tw_app (q := digB) r (ha.no digB dig_32.1 dig_32.2)
    rw [List.cons_append]
    unfold fst at h ⊢
    simp only at h ⊢
    by_cases h39 : c = 39
    · rw [if_pos h39] at h ⊢
      cases hq : qscan r with
      | none => rw [qscan_none_app _ r b (Nat.le_refl _) hq39 hq]
      | some y =>
        obtain ⟨y1, y2⟩ := y
        rw [hq] at h
        rw [qscan_app _ r y1 y2 b (Nat.le_refl _) hq (fun _ => ha.q)]
        simp only at h ⊢
        split at h
        · cases h
        · rename_i hm; rw [if_neg hm]
    · rw [if_neg h39] at h ⊢
      rw [hp, hd]
      by_cases hl : letB c = true
      · rw [if_pos hl] at h ⊢
        split at h
        · cases h
        · rename_i hz; rw [if_neg hz]
      · rw [if_neg hl] at h ⊢
        by_cases hg : digB c = true
        · rw [if_pos hg] at h ⊢
          split at h
          · cases h
          · rename_i hz; rw [if_neg hz]
        · rw [if_neg hg] at h ⊢
          exact h
theorem skip_app_of {s : List UInt8} (b : List UInt8) (h : skip s ≠ []) : skip (s ++ b) = skip s ++ b := by
  unfold skip at *
  induction s with
  | nil => exact absurd rfl h
  | cons c s ih =>
    rw [List.cons_append, List.dropWhile_cons, List.dropWhile_cons]
    rw [List.dropWhile_cons] at h
    split
    · rename_i hc; rw [if_pos hc] at h; exact ih h
    · rfl
theorem skip_app_nil {s : List UInt8} (b : List UInt8) (h : skip s = []) : skip (s ++ b) = skip b := by
  unfold skip at *
  induction s with
  | nil => rfl
  | cons c s ih =>
    rw [List.cons_append, List.dropWhile_cons]
    rw [List.dropWhile_cons] at h
    split
    · rename_i hc; rw [if_pos hc] at h; exact ih h
    · rename_i hc; rw [if_neg hc] at h; cases h
theorem skip_blank {b : List UInt8} (hb : ∀ c ∈ b, blankB c = true) : skip b = [] := by
  induction b with
  | nil => rfl
  | cons c b ih =>
    unfold skip
    rw [List.dropWhile_cons, if_pos (hb c List.mem_cons_self)]
    exact ih fun d hd => hb d (List.mem_cons_of_mem _ hd)
theorem cut_front {b : List UInt8} (hb : ∀ c ∈ b, blankB c = true) (s : List UInt8) : cut (b ++ s) = cut s := by
  rw [← cut_skip (b ++ s), skip_app_nil s (skip_blank hb), cut_skip]
theorem cut_app : ∀ (k : Nat) (s : List UInt8), s.length ≤ k → ∀ (a : List Tk) (z : List UInt8), cut s = some a → After z → cut (s ++ z) = (cut z).map (a ++ ·)
  | k, s, hk, a, z, h, hz => by
    cases hf : fst (skip s) with
    | none =>
      by_cases hn : skip s = []
      · rw [cut_end hn] at h
        obtain rfl := Option.some.inj h
        rw [← cut_skip (s ++ z), skip_app_nil z hn, cut_skip]
        cases cut z <;> rfl
      · rw [cut_none hf hn] at h; cases h
    | some y =>
      obtain ⟨t, n⟩ := y
      obtain ⟨p1, p2⟩ := fst_pos hf
      have hsk := skip_len s
      have hn : skip s ≠ [] := fun e => by rw [e] at hf; cases hf
      rw [cut_more hf] at h
      cases hr : cut ((skip s).drop n) with
      | none => rw [hr] at h; cases h
      | some a' =>
        rw [hr] at h
        obtain rfl := Option.some.inj h
        have e := skip_app_of z hn
        have hf' : fst (skip (s ++ z)) = some (t, n) := by rw [e]; exact fst_app hf hz
        rw [cut_more hf', e, List.drop_append_of_le_length p2]
        cases k with
        | zero => omega
        | succ k =>
          rw [cut_app k ((skip s).drop n) (by rw [List.length_drop]; omega) a' z hr hz]
          cases cut z <;> simp
theorem cut_app_none : ∀ (k : Nat) (s : List UInt8), s.length ≤ k → ∀ (b : List UInt8), cut s = none → (∀ c ∈ b, blankB c = true) → cut (s ++ b) = none
  | k, s, hk, b, h, hb => by
    have ha : After b := fun c hc => hb c (List.mem_of_mem_head? hc)
    cases hf : fst (skip s) with
    | none =>
      by_cases hn : skip s = []
      · rw [cut_end hn] at h; cases h
      · have e := skip_app_of b hn
        exact cut_none (by rw [e]; exact fst_none_app hn hf hb) (by rw [e]; simp [hn])
    | some y =>
      obtain ⟨t, n⟩ := y
      obtain ⟨p1, p2⟩ := fst_pos hf
      have hsk := skip_len s
      have hn : skip s ≠ [] := fun e => by rw [e] at hf; cases hf
      rw [cut_more hf] at h
      have hr : cut ((skip s).drop n) = none := by
        cases hr : cut ((skip s).drop n) with
        | none => rfl
        | some a' => rw [hr] at h; cases h
      have e := skip_app_of b hn
      have hf' : fst (skip (s ++ b)) = some (t, n) := by rw [e]; exact fst_app hf ha
      rw [cut_more hf', e, List.drop_append_of_le_length p2]
      cases k with
      | zero => omega
      | succ k =>
        rw [cut_app_none k ((skip s).drop n) (by rw [List.length_drop]; omega) b hr hb]
        rfl
/-- Blanks at either end change nothing. -/
theorem cut_ends {b : List UInt8} (hb : ∀ c ∈ b, blankB c = true) (s : List UInt8) : cut (b ++ s ++ b) = cut s := by
  rw [List.append_assoc, cut_front hb]
  cases h : cut s with
  | none => exact cut_app_none _ s (Nat.le_refl _) b h hb
  | some a =>
    rw [cut_app _ s (Nat.le_refl _) a b h (fun c hc => hb c (List.mem_of_mem_head? hc)), cut_end (skip_blank hb)]
    simp
theorem cut_between {b s t : List UInt8} {x y : List Tk} (hb : ∀ c ∈ b, blankB c = true) (hne : b ≠ []) (hs : cut s = some x) (ht : cut t = some y) : cut (s ++ b ++ t) = some (x ++ y) := by
  rw [List.append_assoc, cut_app _ s (Nat.le_refl _) x (b ++ t) hs (fun c hc => by
    cases b with
    | nil => exact absurd rfl hne
    | cons d b => exact hb c (by simp at hc; rw [hc]; exact List.mem_cons_self)), cut_front hb, ht]
  rfl

theorem kmay_form {p q : UInt8 → Bool} {m : Nat} {l : List UInt8} (h : kmay p q m l = true) : ∃ c r, l = c :: r ∧ p c = true ∧ r.takeWhile q = r ∧ 1 + r.length ≤ m := by
  unfold kmay at h
  cases l with
  | nil => simp at h
  | cons c r =>
    rw [Bool.and_eq_true, Bool.and_eq_true, decide_eq_true_eq, decide_eq_true_eq] at h
    obtain ⟨_, h1, h2⟩ := h
    cases hp : p c with
    | false => rw [tog_zero hp] at h2; simp at h2
    | true =>
      rw [tog_on hp] at h2
      simp only [List.length_cons] at h1 h2
      refine ⟨c, r, rfl, hp, ?_, by omega⟩
      exact (List.takeWhile_prefix q).eq_of_length (by omega)
/-- A token that may be, as it is written, is the first token of what begins so. -/
theorem fst_tk {t : Tk} (h : t.may = true) {r : List UInt8} (hr : After r) : fst (tkO t ++ r) = some (t, (tkO t).length) ∧ ∃ c l, tkO t = c :: l ∧ blankB c = false := by
  have key : fst (tkO t) = some (t, (tkO t).length) ∧ ∃ c l, tkO t = c :: l ∧ blankB c = false := by
    obtain ⟨k, s⟩ := t
    unfold Tk.may tmayB at h
    simp only at h
    unfold tkO
    simp only
    by_cases h3 : k = 3
    · subst h3
      rw [if_pos rfl] at h ⊢
      refine ⟨?_, 39, _, rfl, by decide⟩
      have := qscan_dbl s [] (by simp)
      simp only [fst, if_true]
      rw [this]
      simp only
      rw [if_pos h]
      simp
    · rw [if_neg h3] at h ⊢
      by_cases h1 : k = 1
      · rw [if_pos h1] at h
        obtain ⟨c, l, e, hp, hq, hm⟩ := kmay_form h
        have e : s = c :: l := by simpa using e
        subst e
        have hc39 : c ≠ 39 := fun e => by subst e; exact absurd hp (by decide)
        refine ⟨?_, c, l, rfl, ?_⟩
        · simp only [fst]
          rw [if_neg hc39, if_pos hp, hq, if_pos hm, h1, List.take_of_length_le (by simp; omega)]
          simp
          omega
        · cases hb : blankB c with
          | false => rfl
          | true => rcases blank_is hb with rfl | rfl <;> exact absurd hp (by decide)
      · rw [if_neg h1] at h
        by_cases h2 : k = 2
        · rw [if_pos h2] at h
          obtain ⟨c, l, e, hp, hq, hm⟩ := kmay_form h
          have e : s = c :: l := by simpa using e
          subst e
          have hc39 : c ≠ 39 := fun e => by subst e; exact absurd hp (by decide)
          have hlet : ¬ letB c = true := fun e => by rw [let_not e] at hp; cases hp
          refine ⟨?_, c, l, rfl, ?_⟩
          · simp only [fst]
            rw [if_neg hc39, if_neg hlet, if_pos hp, hq, if_pos hm, h2, List.take_of_length_le (by simp; omega)]
            simp
            omega
          · cases hb : blankB c with
            | false => rfl
            | true => rcases blank_is hb with rfl | rfl <;> exact absurd hp (by decide)
        · rw [if_neg h2] at h
          by_cases h4 : k = 4
          · rw [if_pos h4] at h
            obtain ⟨c, l, e, hp, hq, hm⟩ := kmay_form h
            have e : s = c :: l := by simpa using e
            have hl : l = [] := List.length_eq_zero_iff.1 (by omega)
            subst hl
            subst e
            have hc39 : c ≠ 39 := fun e => by subst e; exact absurd hp (by decide)
            obtain ⟨n1, n2⟩ := sig_not hp
            refine ⟨?_, c, [], rfl, ?_⟩
            · simp only [fst]
              rw [if_neg hc39, n1, n2, hp, h4]
              rfl
            · cases hb : blankB c with
              | false => rfl
              | true => rcases blank_is hb with rfl | rfl <;> exact absurd hp (by decide)
          · rw [if_neg h4] at h; cases h
  exact ⟨fst_app key.1 hr, key.2⟩
theorem skip_tk {t : Tk} (h : t.may = true) (r : List UInt8) : skip (tkO t ++ r) = tkO t ++ r := by
  obtain ⟨_, c, l, e, hb⟩ := fst_tk h (r := []) After.nil
  rw [e, List.cons_append]
  unfold skip
  rw [List.dropWhile_cons, hb]
  rfl
theorem cut_tk {t : Tk} (h : t.may = true) {r : List UInt8} (hr : After r) : cut (tkO t ++ r) = (cut r).map (t :: ·) := by
  rw [cut_more (l := tkO t ++ r) (by rw [skip_tk h]; exact (fst_tk h hr).1), skip_tk h, List.drop_left]
/-- Tokens as they are written. -/
def joinO : List Tk → List UInt8
  | [] => []
  | [t] => tkO t
  | t :: u :: l => tkO t ++ 32 :: joinO (u :: l)
theorem cut_join : ∀ l : List Tk, (∀ t ∈ l, t.may = true) → cut (joinO l) = some l
  | [], _ => cut_end rfl
  | [t], h => by
    have := cut_tk (h t List.mem_cons_self) After.nil
    rw [List.append_nil, cut_end (l := []) rfl] at this
    exact this
  | t :: u :: l, h => by
    rw [joinO, cut_tk (h t List.mem_cons_self) (After.cons (by decide) _)]
    have e : cut (32 :: joinO (u :: l)) = cut (joinO (u :: l)) := cut_front (b := [32]) (by decide) _
    rw [e, cut_join (u :: l) fun x hx => h x (List.mem_cons_of_mem _ hx)]
    rfl
/-- What a text is cut into may be. -/
theorem fst_may {l : List UInt8} {t : Tk} {n : Nat} (h : fst l = some (t, n)) : t.may = true := by
  cases l with
  | nil => cases h
  | cons c r =>
    unfold fst at h
    simp only at h
    have hk : ∀ (p q : UInt8 → Bool) (m : Nat), p c = true → 1 + (r.takeWhile q).length ≤ m → kmay p q m ((c :: r).take (1 + (r.takeWhile q).length)) = true := by
      intro p q m hp hm
      have := kmay_take p q m (c :: r)
      rw [tog_on hp] at this
      rw [this, decide_eq_true hm]
      simp
    split at h
    · cases hq : qscan r with
      | none => rw [hq] at h; cases h
      | some y =>
        rw [hq] at h
        simp only at h
        split at h
        · rename_i hm
          simp only [Option.some.injEq, Prod.mk.injEq] at h
          rw [← h.1]
          exact hm
        · cases h
    · split at h
      · rename_i hp
        split at h
        · rename_i hm
          simp only [Option.some.injEq, Prod.mk.injEq] at h
          rw [← h.1]
          exact hk letB parB 16 hp hm
        · cases h
      · split at h
        · rename_i hp
          split at h
          · rename_i hm
            simp only [Option.some.injEq, Prod.mk.injEq] at h
            rw [← h.1]
            exact hk digB digB 19 hp hm
          · cases h
        · split at h
          · rename_i hp
            simp only [Option.some.injEq, Prod.mk.injEq] at h
            rw [← h.1]
            have := hk sigB nonB 1 hp (by rw [none_none]; simp)
            rw [none_none] at this
            exact this
          · cases h
theorem cut_may : ∀ (k : Nat) (s : List UInt8), s.length ≤ k → ∀ ts : List Tk, cut s = some ts → ∀ t ∈ ts, t.may = true
  | k, s, hk, ts, h => by
    cases hf : fst (skip s) with
    | none =>
      by_cases hn : skip s = []
      · rw [cut_end hn] at h
        obtain rfl := Option.some.inj h
        intro t ht; cases ht
      · rw [cut_none hf hn] at h; cases h
    | some y =>
      obtain ⟨t, n⟩ := y
      obtain ⟨p1, p2⟩ := fst_pos hf
      have hsk := skip_len s
      rw [cut_more hf] at h
      cases hr : cut ((skip s).drop n) with
      | none => rw [hr] at h; cases h
      | some a' =>
        rw [hr] at h
        obtain rfl := Option.some.inj h
        cases k with
        | zero => omega
        | succ k =>
          intro u hu
          rcases List.mem_cons.1 hu with rfl | hu
          · exact fst_may hf
          · exact cut_may k ((skip s).drop n) (by rw [List.length_drop]; omega) a' hr u hu
end Go.Proofs.YtepnfocgdcbadaaGreatDoor

/- Join: tokens as they are written. -/
namespace Go.Proofs.YtepnfocgdcbadaaGreatDoor
open Go.RowKit Go.Lib

theorem Toks.none (W : World) (B : Nat) : Toks W B none 0 [] := ⟨rfl, fun j hj => absurd hj (by simp)⟩
/-- A token as the program writes it. -/
def tkW (k : Int) (s : ByteArray) : List UInt8 := if k = 3 then txtO 2 0 s else s.data.toList
theorem tkW_may {t : Tk} (h : t.may = true) : tkW t.k ⟨t.s.toArray⟩ = tkO t := by
  unfold tkW tkO
  by_cases h3 : t.k = 3
  · rw [if_pos h3, if_pos h3]
    unfold Tk.may tmayB at h
    rw [if_pos h3] at h
    exact quote_txt t.s h
  · rw [if_neg h3, if_neg h3]
theorem tkO_len {t : Tk} (h : t.may = true) : (tkO t).length ≤ 100 := by
  unfold tkO
  unfold Tk.may tmayB at h
  have hk : ∀ (p q : UInt8 → Bool) (m : Nat), m ≤ 19 → kmay p q m (⟨t.s.toArray⟩ : ByteArray).data.toList = true → t.s.length ≤ 19 := fun p q m hm h => by
    obtain ⟨c, r, e, _, _, h4⟩ := kmay_form h
    have e : t.s = c :: r := by simpa using e
    rw [e]; simp; omega
  by_cases h3 : t.k = 3
  · rw [if_pos h3]
    rw [if_pos h3] at h
    have h40 : t.s.length ≤ 40 := by
      unfold mayB at h
      simp at h
      simpa [ByteArray.size] using h.1
    have := dbl_len t.s
    simp
    omega
  · rw [if_neg h3]
    rw [if_neg h3] at h
    split at h
    · have := hk _ _ _ (by omega) h; omega
    · split at h
      · have := hk _ _ _ (by omega) h; omega
      · split at h
        · have := hk _ _ _ (by omega) h; omega
        · cases h
/-- The texts of these tokens are none too great. -/
def ShortT (l : List Tk) : Prop := ∀ x ∈ l, (⟨x.s.toArray⟩ : ByteArray).size ≤ 100000
def tidxN (l : List Tk) (k : Nat) : Int := match l with
  | [] => -1
  | x :: r => if x.may then tidxN r (k + 1) else k
theorem tidxN_any : ∀ (l : List Tk) (k : Nat), decide (0 ≤ tidxN l k) = !l.all Tk.may
  | [], k => by simp [tidxN]
  | x :: l, k => by
    rw [tidxN]
    cases hx : x.may with
    | true => simp [hx, tidxN_any l (k + 1)]
    | false => simp [hx]
theorem ret_int' {a b : Int} (h : a = b) : Ending.returned (.int .i64 a) = .returned (.int .i64 b) := by rw [h]
end Go.Proofs.YtepnfocgdcbadaaGreatDoor

/- Writing into a builder that the call has made: a string, an octet. -/
namespace Go.Proofs.YtepnfocgdcbadaaGreatDoor
open Go.RowKit Go.Lib

theorem infoByte : (Tryz.prog.info? 5).map (fun i => (i.zero, i.size, i.bytes)) = some (some (.int .u8 0), 1, 1) := by kernel_rfl
theorem byteCells_app (l r : List UInt8) : byteCells (l ++ r) = byteCells l ++ byteCells r := by simp [byteCells]


set_option maxRecDepth 100000 in
set_option maxHeartbeats 4000000 in
theorem copyCheck_used (b : Nat) (w : World) (h0 : w.cell? ⟨b, 0, none⟩ = some (.pointer (some ⟨b, 0, none⟩))) :
    Calls Tryz.prog 122 #[.pointer (some ⟨b, 0, none⟩)] w fun e w' => e = .returned (.tuple #[]) ∧ w' = w := by
  obtain ⟨j, hj, _⟩ := Option.map_eq_some_iff.1 (show (Tryz.prog.info? 116).map (·.size) = some 2 by kernel_rfl)
  go_enter Tryz.func122, Tryz.ntmps122
  go_wp2
  rw [Lib.run_neq_ptr_same w _ Tryz.underlying113 hj]
  go_wp2
  go_end0
  exact ⟨rfl, rfl⟩

set_option maxRecDepth 100000 in
set_option maxHeartbeats 4000000 in
theorem copyCheck_fresh (b : Nat) (w : World) (h0 : w.cell? ⟨b, 0, none⟩ = some (.pointer none)) (hsh : w.shape? b = some (116, 2)) (hfz : w.frozen? ⟨b, 0, none⟩ = false) :
    Calls Tryz.prog 122 #[.pointer (some ⟨b, 0, none⟩)] w fun e w' => e = .returned (.tuple #[]) ∧ w' = w.setCell ⟨b, 0, none⟩ (.pointer (some ⟨b, 0, none⟩)) := by
  obtain ⟨j, hj, hjs⟩ := Option.map_eq_some_iff.1 (show (Tryz.prog.info? 116).map (·.size) = some 2 by kernel_rfl)
  go_enter Tryz.func122, Tryz.ntmps122
  go_wp2
  rw [Lib.run_to_unsafe w ⟨b, 0, none⟩ Tryz.underlying113 Tryz.underlying142 hj (by rw [hjs]; decide) hsh (Nat.zero_lt_succ 1)]
  simp only [Result.andThen]
  rw [Oper.upon_value]
  go_wp2
  rw [run_callFunc_extern Tryz.func135 (by kernel_rfl) (by kernel_rfl) (by kernel_rfl) (e := Extern.AbiNoEscape.same) (by kernel_rfl)]
  rw [Lib.run_noEscape]
  simp only [Result.andThen]
  rw [Oper.upon_value]
  go_wp2
  rw [Lib.run_from_unsafe w ⟨b, 0, none⟩ Tryz.underlying142 Tryz.underlying113 hj hsh (by kernel_rfl)]
  simp only [Result.andThen]
  rw [Oper.upon_value]
  go_wp2
  go_end0
  exact ⟨rfl, rfl⟩

theorem copyCheck_any (B b : Nat) (bs : List Value) (w : World) (h : Lib.IsBuilder 116 5 B b bs w) :
    Calls Tryz.prog 122 #[.pointer (some ⟨b, 0, none⟩)] w fun e w' => e = .returned (.tuple #[]) ∧ (Lib.BuilderAt 116 5 B b (.pointer (some ⟨b, 0, none⟩)) bs w' ∧ Below B w w') := by
  rcases h with h | h
  · refine (copyCheck_fresh b w h.cell0 h.shape h.frozen0).mono ?_
    rintro e w' ⟨rfl, rfl⟩
    exact ⟨rfl, h.used _, (Below.refl B w).setCell (p := ⟨b, 0, none⟩) h.1 _⟩
  · refine (copyCheck_used b w h.cell0).mono ?_
    rintro e w' ⟨rfl, rfl⟩
    exact ⟨rfl, h, Below.refl B _⟩

set_option maxRecDepth 100000 in
set_option maxHeartbeats 4000000 in
theorem write_any (B b : Nat) (bs : List Value) (s : ByteArray) (w : World) (h : Lib.IsBuilder 116 5 B b bs w) (hlen : bs.length + s.size ≤ 140737488355328) (hBw : B ≤ w.heap.size) :
    Calls Tryz.prog 113 #[.pointer (some ⟨b, 0, none⟩), .string s] w fun e w' => e = .returned (.tuple #[.int .i64 s.size, .nilIface]) ∧ (Lib.BuilderAt 116 5 B b (.pointer (some ⟨b, 0, none⟩)) (bs ++ Lib.strCells s) w' ∧ Below B w w') := by
  obtain ⟨i0, hi, hz0, hz1, hz2⟩ := info_parts infoByte
  go_enter Tryz.func113, Tryz.ntmps113
  go_wp2_with (go_at_call 122; refine (copyCheck_any B b bs _ h).mono ?_)
  rintro e w1 ⟨rfl, h1, hb1⟩
  obtain ⟨hB, v, hbk, hown, hne⟩ := h1
  have c0 : w1.cell? ⟨b, 0, none⟩ = some (.pointer (some ⟨b, 0, none⟩)) := by rw [Lib.cell_of_heap hbk]; rfl
  have c1 : w1.cell? ⟨b, 1, none⟩ = some v := by rw [Lib.cell_of_heap hbk]; rfl
  go_wp2_with (at_builtin; refine Lib.wpList_append_own_string _ rfl _ _ 114 9 rfl B 5 i0 Tryz.underlying114 Tryz.underlying9 hi hz0 hz1 hz2 _ _ _ rfl hown s rfl ?c3 ?c4 ?c5 ?_)
  case c3 => unfold maxLen; omega
  case c4 => omega
  case c5 => have := hb1.size; omega
  intro v' w2 hown' hgrow _
  have hlt : b < w1.heap.size := by
    rcases Nat.lt_or_ge b w1.heap.size with h' | h'
    · exact h'
    · simp [Array.getElem?_eq_none h'] at hbk
  have hb2 : w2.heap[b]? = some (.cells #[.pointer (some ⟨b, 0, none⟩), v] 116 (0, 0)) := by
    rw [hgrow.block b hlt (fun e => hne e.symm)]
    exact hbk
  have d0 : w2.cell? ⟨b, 0, none⟩ = some (.pointer (some ⟨b, 0, none⟩)) := by rw [Lib.cell_of_heap hb2]; rfl
  have d1 : w2.cell? ⟨b, 1, none⟩ = some v := by rw [Lib.cell_of_heap hb2]; rfl
  have f1 : w2.frozen? ⟨b, 1, none⟩ = false := Lib.frozen_of_heap hb2 1
  obtain ⟨ao, n', cap, rfl⟩ : ∃ ao n' cap, v' = .slice ao n' cap := by
    rcases hown'.2 with ⟨hv, _⟩ | ⟨g, cap, cur, hv, _⟩
    · exact ⟨_, _, _, hv⟩
    · exact ⟨_, _, _, hv⟩
  go_wp2
  go_ret2
  refine ⟨rfl, ?_, ?_⟩
  · exact Lib.BuilderAt.put (T := 116) (e := 5) hB hb2 (bs' := bs ++ Lib.strCells s) (by simpa [Lib.strCells_length] using hown') (by decide)
  · exact (hb1.grown hgrow (by have := hb1.size; omega) (fun k hk => (hown.lt k hk).1)).setCell (p := ⟨b, 1, none⟩) hB _

set_option maxRecDepth 100000 in
set_option maxHeartbeats 4000000 in
theorem writeByte_any (B b : Nat) (bs : List Value) (x : Int) (w : World) (h : Lib.IsBuilder 116 5 B b bs w) (hlen : bs.length + 1 ≤ 140737488355328) (hBw : B ≤ w.heap.size) :
    Calls Tryz.prog 114 #[.pointer (some ⟨b, 0, none⟩), .int .u8 x] w fun e w' => e = .returned .nilIface ∧ (Lib.BuilderAt 116 5 B b (.pointer (some ⟨b, 0, none⟩)) (bs ++ [.int .u8 x]) w' ∧ Below B w w') := by
  obtain ⟨i0, hi, hz0, hz1, hz2⟩ := info_parts infoByte
  go_enter Tryz.func114, Tryz.ntmps114
  go_wp2_with (go_at_call 122; refine (copyCheck_any B b bs _ h).mono ?_)
  rintro e w1 ⟨rfl, h1, hb1⟩
  obtain ⟨hB, v, hbk, hown, hne⟩ := h1
  have c0 : w1.cell? ⟨b, 0, none⟩ = some (.pointer (some ⟨b, 0, none⟩)) := by rw [Lib.cell_of_heap hbk]; rfl
  have c1 : w1.cell? ⟨b, 1, none⟩ = some v := by rw [Lib.cell_of_heap hbk]; rfl
  have hbs1 := hb1.size
  go_wp2_with (at_builtin; refine wpList_append_own _ rfl _ _ 114 rfl B 5 i0 _ 1 1 Tryz.underlying114 hi hz0 hz1 hz2 rfl (by decide) _ _ _ rfl (World.ownsRow.alloc hown _) ⟨w1.heap.size, 0, none⟩ 1 1 [.int .u8 x] rfl rfl ?c1 ?c2 ?c3 ?c4 ?c5 ?_)
  case c1 =>
    intro j u hj
    match j with
    | 0 => simp at hj; subst hj; simp [Addr.add, go_sem]
    | j + 1 => simp at hj
  case c2 => intro u hu; simp at hu; subst hu; rfl
  case c3 => unfold maxLen; omega
  case c4 => omega
  case c5 => simp; omega
  intro v' w2 hown' hgrow _
  have hlt : b < w1.heap.size := by
    rcases Nat.lt_or_ge b w1.heap.size with h' | h'
    · exact h'
    · simp [Array.getElem?_eq_none h'] at hbk
  have hbk' : (w1.alloc (.cells #[.int .u8 x] 5)).heap[b]? = some (.cells #[.pointer (some ⟨b, 0, none⟩), v] 116 (0, 0)) := (((Below.refl w1.heap.size w1).alloc (Nat.le_refl _) _).block b hlt).trans hbk
  have hb2 : w2.heap[b]? = some (.cells #[.pointer (some ⟨b, 0, none⟩), v] 116 (0, 0)) := by
    rw [hgrow.block b (by simp; omega) (fun e => hne e.symm)]
    exact hbk'
  have d0 : w2.cell? ⟨b, 0, none⟩ = some (.pointer (some ⟨b, 0, none⟩)) := by rw [Lib.cell_of_heap hb2]; rfl
  have d1 : w2.cell? ⟨b, 1, none⟩ = some v := by rw [Lib.cell_of_heap hb2]; rfl
  have f1 : w2.frozen? ⟨b, 1, none⟩ = false := Lib.frozen_of_heap hb2 1
  obtain ⟨ao, n', cap, rfl⟩ : ∃ ao n' cap, v' = .slice ao n' cap := by
    rcases hown'.2 with ⟨hv, _⟩ | ⟨g, cap, cur, hv, _⟩
    · exact ⟨_, _, _, hv⟩
    · exact ⟨_, _, _, hv⟩
  go_wp2
  go_ret
  refine ⟨rfl, ?_, ?_⟩
  · exact Lib.BuilderAt.put (T := 116) (e := 5) hB hb2 (bs' := bs ++ [.int .u8 x]) (by simpa using hown') (by decide)
  · exact ((hb1.alloc (by omega) _).grown hgrow (by simp; omega) (fun k hk => (hown.lt k hk).1)).setCell (p := ⟨b, 1, none⟩) hB _
theorem copyCheck2_any (B b : Nat) (bs : List Value) (w : World) (h : Lib.IsBuilder 116 5 B b bs w) :
    Calls Tryz.prog 122 #[.pointer (some ⟨b, 0, none⟩)] w fun e w' => e = .returned (.tuple #[]) ∧ Lib.BuilderAt 116 5 B b (.pointer (some ⟨b, 0, none⟩)) bs w' ∧ Below B w w' ∧ (∀ q, q ≠ b → w'.heap[q]? = w.heap[q]?) ∧ (∀ v, (∃ p, w'.heap[b]? = some (.cells #[p, v] 116 (0, 0))) → ∃ p, w.heap[b]? = some (.cells #[p, v] 116 (0, 0))) := by
  rcases h with h | h
  · refine (copyCheck_fresh b w h.cell0 h.shape h.frozen0).mono ?_
    rintro e w' ⟨rfl, rfl⟩
    refine ⟨rfl, h.used _, (Below.refl B w).setCell (p := ⟨b, 0, none⟩) h.1 _, fun q hq => Below.heap_setCell _ _ _ _ (fun e => hq e), ?_⟩
    rintro v ⟨p, hp⟩
    obtain ⟨_, v0, hbk, _⟩ := h
    refine ⟨.pointer none, ?_⟩
    rw [hbk]
    have : (w.setCell ⟨b, 0, none⟩ (.pointer (some ⟨b, 0, none⟩))).heap[b]? = some (.cells #[.pointer (some ⟨b, 0, none⟩), v0] 116 (0, 0)) := by simp [World.setCell, Array.getElem?_modify, hbk]
    rw [this] at hp
    simp at hp
    rw [hp.2]
  · refine (copyCheck_used b w h.cell0).mono ?_
    rintro e w' ⟨rfl, rfl⟩
    exact ⟨rfl, h, Below.refl B _, fun _ _ => rfl, fun v h => h⟩

set_option maxRecDepth 100000 in
set_option maxHeartbeats 4000000 in
theorem writeByte2_any (B b : Nat) (bs : List Value) (x : Int) (w : World) (h : Lib.IsBuilder 116 5 B b bs w) (hlen : bs.length + 1 ≤ 140737488355328) (hBw : B ≤ w.heap.size) (q : Nat) (hq : q < w.heap.size) (hqb : q ≠ b) (hqv : ∀ p v, w.heap[b]? = some (.cells #[p, v] 116 (0, 0)) → v.ownBlock ≠ some q) :
    Calls Tryz.prog 114 #[.pointer (some ⟨b, 0, none⟩), .int .u8 x] w fun e w' => e = .returned .nilIface ∧ (Lib.BuilderAt 116 5 B b (.pointer (some ⟨b, 0, none⟩)) (bs ++ [.int .u8 x]) w' ∧ Below B w w' ∧ w'.heap[q]? = w.heap[q]?) := by
  obtain ⟨i0, hi, hz0, hz1, hz2⟩ := info_parts infoByte
  go_enter Tryz.func114, Tryz.ntmps114
  go_wp2_with (go_at_call 122; refine (copyCheck2_any B b bs _ h).mono ?_)
  rintro e w1 ⟨rfl, h1, hb1, hoth, hsame⟩
  obtain ⟨hB, v, hbk, hown, hne⟩ := h1
  have hvq : v.ownBlock ≠ some q := by
    obtain ⟨p, hp⟩ := hsame v ⟨_, hbk⟩
    exact hqv p v hp
  have c0 : w1.cell? ⟨b, 0, none⟩ = some (.pointer (some ⟨b, 0, none⟩)) := by rw [Lib.cell_of_heap hbk]; rfl
  have c1 : w1.cell? ⟨b, 1, none⟩ = some v := by rw [Lib.cell_of_heap hbk]; rfl
  have hbs1 := hb1.size
  go_wp2_with (at_builtin; refine wpList_append_own _ rfl _ _ 114 rfl B 5 i0 _ 1 1 Tryz.underlying114 hi hz0 hz1 hz2 rfl (by decide) _ _ _ rfl (World.ownsRow.alloc hown _) ⟨w1.heap.size, 0, none⟩ 1 1 [.int .u8 x] rfl rfl ?c1 ?c2 ?c3 ?c4 ?c5 ?_)
  case c1 =>
    intro j u hj
    match j with
    | 0 => simp at hj; subst hj; simp [Addr.add, go_sem]
    | j + 1 => simp at hj
  case c2 => intro u hu; simp at hu; subst hu; rfl
  case c3 => unfold maxLen; omega
  case c4 => omega
  case c5 => simp; omega
  intro v' w2 hown' hgrow _
  have hlt : b < w1.heap.size := by
    rcases Nat.lt_or_ge b w1.heap.size with h' | h'
    · exact h'
    · simp [Array.getElem?_eq_none h'] at hbk
  have hbk' : (w1.alloc (.cells #[.int .u8 x] 5)).heap[b]? = some (.cells #[.pointer (some ⟨b, 0, none⟩), v] 116 (0, 0)) := (((Below.refl w1.heap.size w1).alloc (Nat.le_refl _) _).block b hlt).trans hbk
  have hb2 : w2.heap[b]? = some (.cells #[.pointer (some ⟨b, 0, none⟩), v] 116 (0, 0)) := by
    rw [hgrow.block b (by simp; omega) (fun e => hne e.symm)]
    exact hbk'
  have d0 : w2.cell? ⟨b, 0, none⟩ = some (.pointer (some ⟨b, 0, none⟩)) := by rw [Lib.cell_of_heap hb2]; rfl
  have d1 : w2.cell? ⟨b, 1, none⟩ = some v := by rw [Lib.cell_of_heap hb2]; rfl
  have f1 : w2.frozen? ⟨b, 1, none⟩ = false := Lib.frozen_of_heap hb2 1
  obtain ⟨ao, n', cap, rfl⟩ : ∃ ao n' cap, v' = .slice ao n' cap := by
    rcases hown'.2 with ⟨hv, _⟩ | ⟨g, cap, cur, hv, _⟩
    · exact ⟨_, _, _, hv⟩
    · exact ⟨_, _, _, hv⟩
  go_wp2
  go_ret
  refine ⟨rfl, ?_, ?_, ?_⟩
  · exact Lib.BuilderAt.put (T := 116) (e := 5) hB hb2 (bs' := bs ++ [.int .u8 x]) (by simpa using hown') (by decide)
  · exact ((hb1.alloc (by omega) _).grown hgrow (by simp; omega) (fun k hk => (hown.lt k hk).1)).setCell (p := ⟨b, 1, none⟩) hB _
  · refine (Below.heap_setCell _ _ _ _ (fun e => hqb e)).trans ((hgrow.block q (by have := hb1.size; simp; omega) (fun e => hvq e.symm)).trans ?_)
    exact (((Below.refl w1.heap.size w1).alloc (Nat.le_refl _) _).block q (by have := hb1.size; omega)).trans (hoth q hqb)

/-- A builder that holds these octets. -/
def Bld (W : World) (B b : Nat) (l : List UInt8) : Prop := Lib.IsBuilder 116 5 B b (byteCells l) W
theorem Bld.keep {W W' : World} {B b C : Nat} {l : List UInt8} (h : Bld W B b l) (hb : Below C W W') (hC : W.heap.size ≤ C) : Bld W' B b l := by
  have key : ∀ p, Lib.BuilderAt 116 5 B b p (byteCells l) W → Lib.BuilderAt 116 5 B b p (byteCells l) W' := by
    rintro p ⟨h1, v, h2, h3, h4⟩
    have hlt : b < W.heap.size := (Array.getElem?_eq_some_iff.1 h2).1
    refine ⟨h1, v, (hb.block b (by omega)).trans h2, h3.kept (row := none) ⟨hb.os, hb.tape, hb.output, hb.size, fun q hq _ => hb.block q (by omega)⟩ ?_, h4⟩
    cases h : Value.ownBlock v with
    | none => exact .inl rfl
    | some _ => exact .inr (by simp)
  exact Or.imp (key _) (key _) h
theorem Bld.written {W' : World} {B b : Nat} {l r : List UInt8} {p : Value} (h : Lib.BuilderAt 116 5 B b p (byteCells l ++ Lib.strCells ⟨r.toArray⟩) W') (hp : p = .pointer (some ⟨b, 0, none⟩)) : Bld W' B b (l ++ r) := by
  subst hp
  unfold Bld
  rw [byteCells_app]
  exact .inr h
theorem Bld.fresh {W : World} {B b : Nat} (hb : b = W.heap.size) (hB : B ≤ b) : Bld (W.alloc (.cells #[.pointer none, .slice none 0 0] 116)) B b [] := by
  subst hb
  exact .inl ⟨hB, _, heap_alloc_new W _, World.ownsRow_nil _ _ _ _, by simp [Value.ownBlock]⟩
theorem Bld.wrote {W' : World} {B b : Nat} {l : List UInt8} {c : UInt8} {p : Value} (h : Lib.BuilderAt 116 5 B b p (byteCells l ++ [.int .u8 (c.toNat : Int)]) W') (hp : p = .pointer (some ⟨b, 0, none⟩)) : Bld W' B b (l ++ [c]) := by
  subst hp
  unfold Bld
  rw [byteCells_app]
  exact .inr h
theorem byteCells_len (l : List UInt8) : (byteCells l).length = l.length := by simp [byteCells]
end Go.Proofs.YtepnfocgdcbadaaGreatDoor

/- strings.ToLower at the two words that are wanted. -/
namespace Go.Proofs.YtepnfocgdcbadaaGreatDoor
open Go.RowKit Go.Lib

set_option maxRecDepth 100000 in
set_option maxHeartbeats 4000000 in
theorem lower_eq (w : World) : Calls Tryz.prog 104 #[.string ⟨#[61]⟩] w fun e w' => e = .returned (.string ⟨#[61]⟩) ∧ Below w.heap.size w w' := by
  go_enter Tryz.func104, Tryz.ntmps104
  go_wp2_with (fail)
  go_loopw [3, 4, 5] (fun a b v wr => ∃ j : Nat, j ≤ 1 ∧ v = .int .i64 j ∧ a = .bool true ∧ b = .bool false ∧ w = wr) (fun _ _ v _ => 1 - (intOf v).toNat)
  case atStart => exact ⟨0, by omega, rfl, rfl, rfl, rfl⟩
  case round =>
    obtain ⟨j, hj, rfl, rfl, rfl, rfl⟩ := hrel
    rcases (show j = 0 ∨ j = 1 by omega) with rfl | rfl
    · clear hj
      go_wp2_with (fail)
      go_roundw
      case rel => exact ⟨1, by omega, rfl, rfl, rfl, by first | rfl | trivial⟩
      case measure => simp [intOf]
    · clear hj
      go_wp2_with (fail)
      go_ret
      exact ⟨rfl, Below.refl _ _⟩

set_option maxRecDepth 100000 in
set_option maxHeartbeats 4000000 in
theorem lower_or (w : World) : Calls Tryz.prog 104 #[.string ⟨#[79, 82]⟩] w fun e w' => e = .returned (.string ⟨#[111, 114]⟩) ∧ Below w.heap.size w w' := by
  go_enter Tryz.func104, Tryz.ntmps104
  go_wp2_with (fail)
  go_loopw [3, 4, 5] (fun a b v wr => ∃ (j : Nat) (u : Bool), j ≤ 2 ∧ (j = 2 → u = true) ∧ v = .int .i64 j ∧ a = .bool true ∧ b = .bool u ∧ w = wr) (fun _ _ v _ => 2 - (intOf v).toNat)
  case atStart => exact ⟨0, false, by omega, (fun h => by cases h), rfl, rfl, rfl, rfl⟩
  case round =>
    obtain ⟨j, u, hj, hu, rfl, rfl, rfl, rfl⟩ := hrel
    rcases (show j = 0 ∨ j = 1 ∨ j = 2 by omega) with rfl | rfl | rfl
    · clear hj hu
      cases u <;>
        (go_wp2_with (fail)
         go_roundw
         case rel => exact ⟨1, true, by omega, (fun _ => rfl), rfl, rfl, rfl, by first | rfl | trivial⟩
         case measure => simp [intOf])
    · clear hj hu
      cases u <;>
        (go_wp2_with (fail)
         go_roundw
         case rel => exact ⟨2, true, by omega, (fun _ => rfl), rfl, rfl, rfl, by first | rfl | trivial⟩
         case measure => simp [intOf])
    · obtain rfl := hu rfl
      clear hj hu
      go_wp2_with (go_at_call 112; refine (Tryz.Builder_Grow_fresh w.heap.size w.heap.size 2 _ (Nat.le_refl _) (by show (w.heap.push _)[w.heap.size]? = _; simp) (by simp) (by omega)).mono ?_; rintro e w1 ⟨rfl, hB1, hb1⟩; have HB1 : Hid (Below w.heap.size w w1 ∧ Lib.BuilderAt 116 5 w.heap.size w.heap.size (.pointer (some ⟨w.heap.size, 0, none⟩)) [] w1) := ⟨((Below.refl _ _).alloc (Nat.le_refl _) _).trans hb1, hB1⟩; clear hB1 hb1)
      go_loopw [8, 9] (fun p v wr => ∃ j : Nat, j ≤ 2 ∧ p = .int .i64 j ∧ v = .int .i64 j ∧ Below w.heap.size w wr ∧ Hid (Lib.BuilderAt 116 5 w.heap.size w.heap.size (.pointer (some ⟨w.heap.size, 0, none⟩)) (Lib.byteCells ([111, 114].take j)) wr)) (fun _ v _ => 2 - (intOf v).toNat)
      case atStart => exact ⟨0, by omega, rfl, rfl, HB1.out.1, HB1.out.2⟩
      case round =>
        obtain ⟨j, hj, rfl, rfl, hb, HB⟩ := hrel
        have hbs := hb.size
        rcases (show j = 0 ∨ j = 1 ∨ j = 2 by omega) with rfl | rfl | rfl
        · clear hj
          go_wp2_with (go_at_call 114; refine (writeByte_any w.heap.size w.heap.size _ _ _ (.inr HB.out) (by simp [Lib.byteCells]) hbs).mono ?_; rintro e w2 ⟨rfl, hB2, hb2⟩; have HB2 : Hid (Below w.heap.size w w2 ∧ Lib.BuilderAt 116 5 w.heap.size w.heap.size (.pointer (some ⟨w.heap.size, 0, none⟩)) (Lib.byteCells ([111, 114].take 1)) w2) := ⟨hb.trans hb2, hB2⟩; clear hB2 hb2)
          go_roundw
          case rel => exact ⟨1, by omega, rfl, rfl, HB2.out.1, HB2.out.2⟩
          case measure => simp [intOf]
        · clear hj
          go_wp2_with (go_at_call 114; refine (writeByte_any w.heap.size w.heap.size _ _ _ (.inr HB.out) (by simp [Lib.byteCells]) hbs).mono ?_; rintro e w2 ⟨rfl, hB2, hb2⟩; have HB2 : Hid (Below w.heap.size w w2 ∧ Lib.BuilderAt 116 5 w.heap.size w.heap.size (.pointer (some ⟨w.heap.size, 0, none⟩)) (Lib.byteCells ([111, 114].take 2)) w2) := ⟨hb.trans hb2, hB2⟩; clear hB2 hb2)
          go_roundw
          case rel => exact ⟨2, by omega, rfl, rfl, HB2.out.1, HB2.out.2⟩
          case measure => simp [intOf]
        · clear hj
          go_wp2_with (go_at_call 115; refine (Tryz.Builder_String_any w.heap.size w.heap.size [111, 114] _ (.inr HB.out) hbs).mono ?_; rintro e w2 ⟨rfl, hb2⟩; have HB2 : Hid (Below w.heap.size w w2) := hb.trans hb2; clear hb2)
          go_ret
          exact ⟨rfl, HB2.out⟩
end Go.Proofs.YtepnfocgdcbadaaGreatDoor

/- The parser: two parts with a word between. -/
namespace Go.Proofs.YtepnfocgdcbadaaGreatDoor
open Go.RowKit Go.Lib

theorem gcellD {W w1 : World} {g : Nat} (h : W.drew.grownBy w1 (some g)) : ∀ b o, b < W.heap.size → ¬ b = g → w1.cell? ⟨b, o, none⟩ = W.cell? ⟨b, o, none⟩ := (gcell h).1
def twoT (op : ByteArray) (x y : Ex) : Ex := .mk op ⟨0, 0, ⟨#[]⟩⟩ ⟨#[]⟩ [x, y]
/-- The world in which both parts are there. -/
structure Jn (w : World) (g : Nat) (A : Option Addr) (c : Nat) (l : List Tn) (N : Nat) (Q : Nat → Prop) (t t2 : Ex) (u u2 : Value) (at' ask : Nat) (failed : Bool) (W : World) : Prop where
  t1 : Tr W (fun b => (Q b ∧ b < w.heap.size) ∨ w.heap.size + 1 < b) N t u
  t2 : Tr W (fun b => (Q b ∧ b < w.heap.size) ∨ w.heap.size + 1 < b) N t2 u2
  res : ExC W ⟨w.heap.size + 1, 0, none⟩ zT (.slice none 0 0)
  rfz : ∀ o, W.frozen? ⟨w.heap.size + 1, o, none⟩ = false
  pz : Pz W g A c l at' ask failed
  gr : w.grownBy W (some g)
  lt : w.heap.size + 1 < W.heap.size
section
variable {w W W' : World} {g : Nat} {A : Option Addr} {c : Nat} {l : List Tn} {N : Nat} {Q : Nat → Prop} {t t2 : Ex} {u u2 : Value} {at' ask : Nat} {failed : Bool}
theorem Jn.below (h : Jn w g A c l N Q t t2 u u2 at' ask failed W) (hb : Below W.heap.size W W') : Jn w g A c l N Q t t2 u u2 at' ask failed W' :=
  ⟨h.t1.below hb, h.t2.below hb, h.res.keep (hb.block _ h.res.lt), fun o => (hb.frozen (p := ⟨_, o, none⟩) h.res.lt).trans (h.rfz o), h.pz.below hb, grow_trans h.gr (grow_below hb _), Nat.lt_of_lt_of_le h.lt hb.size⟩
theorem Jn.mk' {B2 : Option Addr} {q2 : Nat} {b : Nat} {ws : List ByteArray} {at2 : Nat} {failed2 : Bool} {W1 : World} (h : Chn w g A c l N Q t u at' ask failed b ws W) (hgw : g < w.heap.size) (hQ : ∀ x, Q x → g < x) (hT : Tr W1 (fun x => False ∨ W.heap.size ≤ x) N t2 (.slice B2 t2.l.length q2)) (hP : Pz W1 g A c l at2 ask failed2) (hG : W.grownBy W1 (some g)) : Jn w g A c l N Q t t2 u (.slice B2 t2.l.length q2) at2 ask failed2 W1 := by
  have n1 : some (w.heap.size + 1) ≠ some g := fun e => by injection e with e; omega
  have hl := h.lt
  have hs := hG.size
  exact ⟨h.tr.grown hG (fun hx => by rcases hx with ⟨hx, _⟩ | hx; exact absurd (hQ _ hx) (by omega); omega), hT.keep (fun _ _ _ => rfl) (fun b h _ => h.elim False.elim (fun h => .inr (by omega))), h.res.keep (hG.block _ h.res.lt n1), fun o => (World.frozen?_of_block (w := W) (a := ⟨w.heap.size + 1, o, none⟩) (hG.block _ h.res.lt n1)).trans (h.rfz o), hP, grow_trans h.gr hG, by omega⟩
theorem Jn.two {B B2 : Option Addr} {p p2 q q2 : Nat} (op : ByteArray) (h : Jn w g A c l N Q t t2 (.slice B p q) (.slice B2 p2 q2) at' ask failed W) :
    Tr (W.alloc (.cells #[.string t.op, .int .i64 t.x.k, .int .i64 t.x.i, .string t.x.s, .string t.s, .slice B p q, .string t2.op, .int .i64 t2.x.k, .int .i64 t2.x.i, .string t2.x.s, .string t2.s, .slice B2 p2 q2] 26)) (fun b => (Q b ∧ b < w.heap.size) ∨ w.heap.size + 1 < b) (N + 1) (twoT op t t2) (.slice (some ⟨W.heap.size, 0, none⟩) 2 2) := by
  have hb : Below W.heap.size W (W.alloc (.cells #[.string t.op, .int .i64 t.x.k, .int .i64 t.x.i, .string t.x.s, .string t.s, .slice B p q, .string t2.op, .int .i64 t2.x.k, .int .i64 t2.x.i, .string t2.x.s, .string t2.s, .slice B2 p2 q2] 26)) := (Below.refl _ _).alloc (Nat.le_refl _) _
  have hl := h.lt
  refine ⟨by show (⟨#[]⟩ : ByteArray).size ≤ 100000; decide, some ⟨W.heap.size, 0, none⟩, 2, rfl, by simp [twoT, Ex.l, maxLen], fun j hj => ?_⟩
  have hj : j < 2 := hj
  rcases (show j = 0 ∨ j = 1 by omega) with rfl | rfl
  · refine ⟨_, .slice B p q, rfl, .inr hl, ?_, h.t1.1, (h.t1.below hb).2⟩
    have e : (⟨W.heap.size, 0, none⟩ : Addr).add (0 * 6) = ⟨W.heap.size, 0, none⟩ := by unfold Addr.add; simp
    rw [e]
    refine ⟨?_, ?_, ?_, ?_, ?_, ?_⟩ <;> (rw [Lib.cell_of_heap (alloc_at rfl _)]; rfl)
  · refine ⟨_, .slice B2 p2 q2, rfl, .inr hl, ?_, h.t2.1, (h.t2.below hb).2⟩
    have e : (⟨W.heap.size, 0, none⟩ : Addr).add (1 * 6) = ⟨W.heap.size, 6, none⟩ := by unfold Addr.add; simp
    rw [e]
    refine ⟨?_, ?_, ?_, ?_, ?_, ?_⟩ <;> (rw [Lib.cell_of_heap (alloc_at rfl _)]; rfl)
/-- Behind the check: the result's box is as it was. -/
structure Jd (w : World) (g : Nat) (A : Option Addr) (c : Nat) (l : List Tn) (N : Nat) (Q : Nat → Prop) (t : Ex) (u : Value) (at' ask : Nat) (failed : Bool) (W : World) : Prop where
  tr : Tr W (fun b => (Q b ∧ b < w.heap.size) ∨ w.heap.size + 1 < b) N t u
  res : ExC W ⟨w.heap.size + 1, 0, none⟩ zT (.slice none 0 0)
  rfz : ∀ o, W.frozen? ⟨w.heap.size + 1, o, none⟩ = false
  pz : Pz W g A c l at' ask failed
  gr : w.grownBy W (some g)
  lt : w.heap.size + 1 < W.heap.size
theorem Jn.done {t' : Ex} {u' : Value} {W2 W3 : World} {N2 : Nat} {at2 : Nat} {failed2 : Bool} (h : Jn w g A c l N Q t t2 u u2 at' ask failed W) (hgw : g < w.heap.size) (hb : Below W.heap.size W W2) (hT : Tr W3 (fun b => (fun b => (Q b ∧ b < w.heap.size) ∨ w.heap.size + 1 < b) b ∨ W2.heap.size ≤ b) N2 t' u') (hP : Pz W3 g A c l at2 ask failed2) (hG : W2.grownBy W3 (some g)) : Jd w g A c l N2 Q t' u' at2 ask failed2 W3 := by
  have n1 : some (w.heap.size + 1) ≠ some g := fun e => by injection e with e; omega
  have hl := h.lt
  have hs := hG.size
  have hs2 := hb.size
  have hr := h.res.keep (hb.block _ h.res.lt)
  exact ⟨hT.keep (fun _ _ _ => rfl) (fun b h _ => h.elim id (fun h => .inr (by omega))), hr.keep (hG.block _ hr.lt n1), fun o => (World.frozen?_of_block (w := W2) (a := ⟨w.heap.size + 1, o, none⟩) (hG.block _ hr.lt n1)).trans ((hb.frozen (p := ⟨_, o, none⟩) h.res.lt).trans (h.rfz o)), hP, grow_trans (grow_trans h.gr (grow_below hb _)) hG, by omega⟩
end
set_option maxRecDepth 100000 in
set_option maxHeartbeats 4000000 in
theorem joined_sum {N : Nat} (g : Nat) (A : Option Addr) (c : Nat) (l : List Tn) (at' ask : Nat) (failed : Bool) (Q : Nat → Prop) (t t2 : Ex) (u : Value) (at2 : Nat) (failed2 : Bool) (w : World) (hz : Pz w g A c l at' ask failed) (hk : ask < 11) (ht : Tr w Q N t u) (hQ : ∀ x, Q x → g < x) (hm : mayT (twoT ⟨#[61]⟩ t t2) = true)
    (hpart : ∀ W, Pz W g A c l at' (ask + 1) failed → Calls Tryz.prog 90 #[.pointer (some ⟨g, 0, none⟩)] W (Res W g A c l N (fun _ => False) t2 at2 (ask + 1) failed2)) :
    Calls Tryz.prog 85 #[.pointer (some ⟨g, 0, none⟩), EVt t u, .string ⟨#[61]⟩, .func (.func 90) #[.pointer (some ⟨g, 0, none⟩)] #[]] w (Res w g A c l (N + 1) Q (twoT ⟨#[61]⟩ t t2) at2 ask failed2) := by
  obtain ⟨B, q, rfl, hn2⟩ := ht.form
  have hgl := hz.lt
  have H0 : Hid (Chn w g A c l N Q t (.slice B t.l.length q) at' ask failed (w.heap.size + 1) [] ((w.alloc (.cells #[.string t.op, .int .i64 t.x.k, .int .i64 t.x.i, .string t.x.s, .string t.s, .slice B t.l.length q] 26)).alloc (.cells #[.string ⟨#[]⟩, .int .i64 0, .int .i64 0, .string ⟨#[]⟩, .string ⟨#[]⟩, .slice none 0 0] 26))) := Chn.start hz ht (fun j hj => absurd hj (by simp))
  have HX := Lib.hid (And.intro hpart hm)
  have HQ := Lib.hid hQ
  unfold EVt
  clear hz ht hpart hm hQ
  have hne0 : ¬ w.heap.size = g := by omega
  have hne1 : ¬ w.heap.size + 1 = g := by omega
  go_enter Tryz.func85, Tryz.ntmps85
  go_upto_region 1 with (fail)
  refine wp_gen (Chn w g A c l N Q t (.slice B t.l.length q) at' ask failed (w.heap.size + 1) []) H0.out fun w0 h0 => ?_
  clear H0
  have H0 := Lib.hid h0
  clear h0
  have k0 := H0.out.box.c0
  have k1 := H0.out.box.c1
  have k2 := H0.out.box.c2
  have k3 := H0.out.box.c3
  have k4 := H0.out.box.c4
  have k5 := H0.out.box.c5
  have r0 := H0.out.res.c0
  have r1 := H0.out.res.c1
  have r2 := H0.out.res.c2
  have r3 := H0.out.res.c3
  have r4 := H0.out.res.c4
  have r5 := H0.out.res.c5
  have rf := H0.out.rfz
  have bf := H0.out.bfz
  have hz := H0.out.lt
  have hgz := H0.out.pz.lt
  have hzy := Nat.lt_of_succ_lt hz
  simp only [Nat.zero_add] at k0 r0 k1 r1 k2 r2 k3 r3 k4 r4 k5 r5
  go_region_with (first
    | (go_at_call 104; refine (lower_eq _).mono ?_; rintro e wL ⟨rfl, hbL⟩; (first | (have hcL := bcellD hbL) | (have hcL := (bcell hbL).1)); have hyL := hbL.size; (try simp at hyL); have hzL : w.heap.size < wL.heap.size := (by omega); (try have K2 := Lib.hid (K2.out.below hbL)))
    | (go_at_call 72; go_loud (refine (asked_sum (N := N) g A c l at' ask at2 failed failed2 t2 _ (by first | exact H0.out.pz.drew | exact (H0.out.pz.drew.below hbL)) hk HX.out.1).mono ?_); rintro e w2 ⟨u2, rfl, ht2, hp2, hg2⟩; obtain ⟨B2, q2, rfl, _⟩ := ht2.form; unfold EVt; (first | (have hc2 := gcellD hg2) | (have hc2 := (gcell hg2).1)); have hf2 := (gcell hg2).2; have hy2 := hg2.size; (try simp at hy2); have HP2 := Lib.hid (And.intro ht2 (And.intro hp2 hg2)); clear ht2 hp2 hg2; (try have hz2 : w.heap.size < w2.heap.size := by omega); have K2 : Hid (Jn w g A c l N Q t t2 (.slice B t.l.length q) (.slice B2 t2.l.length q2) at2 ask failed2 w2) := (by first | exact Jn.mk' (H0.out.later (Below.refl w0.heap.size w0).drew) hgl HQ.out HP2.out.1 HP2.out.2.1 HP2.out.2.2 | exact Jn.mk' ((H0.out.later (Below.refl w0.heap.size w0).drew).later hbL) hgl HQ.out HP2.out.1 HP2.out.2.1 HP2.out.2.2))
    | (go_at_call 71; have hc9 := 0; go_loud (refine (checked_yes (N := N + 1) g A c l at2 ask failed2 _ (by first | exact K2.out.pz.alloc _ | exact (K2.out.pz.alloc _).below hbL) (fun b => (Q b ∧ b < w.heap.size) ∨ w.heap.size + 1 < b) (twoT ⟨#[61]⟩ t t2) _ (by first | exact Jn.two ⟨#[61]⟩ K2.out | exact (Jn.two ⟨#[61]⟩ K2.out).below hbL) HX.out.2).mono ?_; rintro e w5 ⟨u5, rfl, ht5, hp5, hg5⟩; obtain ⟨B5, q5, rfl, _⟩ := ht5.form; unfold EVt; have HF : Hid (Jd w g A c l (N + 1) Q (twoT ⟨#[61]⟩ t t2) (.slice B5 (twoT ⟨#[61]⟩ t t2).l.length q5) at2 ask failed2 w5) := (by first | exact Jn.done K2.out hgl ((Below.refl _ _).alloc (Nat.le_refl _) _) ht5 hp5 hg5 | exact Jn.done K2.out hgl (((Below.refl _ _).alloc (Nat.le_refl _) _).trans (hbL.mono (by simp))) ht5 hp5 hg5); have z0 := HF.out.res.c0; have z1 := HF.out.res.c1; have z2 := HF.out.res.c2; have z3 := HF.out.res.c3; have z4 := HF.out.res.c4; have z5 := HF.out.res.c5; have zf := HF.out.rfz; have zl := HF.out.lt; simp only [Nat.zero_add] at z0 z1 z2 z3 z4 z5)))
  all_goals
    go_wp2_with (fail)
    refine bodyPost_ret (v := .agg #[.string (twoT ⟨#[61]⟩ t t2).op, .int .i64 (twoT ⟨#[61]⟩ t t2).x.k, .int .i64 (twoT ⟨#[61]⟩ t t2).x.i, .string (twoT ⟨#[61]⟩ t t2).x.s, .string (twoT ⟨#[61]⟩ t t2).s, .slice B5 (twoT ⟨#[61]⟩ t t2).l.length q5]) (by simp [results, Tryz.results85, go_sem, *]) rfl ?_
    exact Res.store (Q := Q) HF.out.tr HF.out.pz HF.out.gr (b := w.heap.size + 1) (by omega) hgl (fun h => by rcases h with ⟨_, h⟩ | h <;> omega) (fun x h _ => by rcases h with ⟨h, _⟩ | h; exact .inl h; exact .inr (by omega)) _ _ _ _ _ _

set_option maxRecDepth 100000 in
set_option maxHeartbeats 4000000 in
theorem joined_and {N : Nat} (g : Nat) (A : Option Addr) (c : Nat) (l : List Tn) (at' ask : Nat) (failed : Bool) (Q : Nat → Prop) (t t2 : Ex) (u : Value) (at2 : Nat) (failed2 : Bool) (w : World) (hz : Pz w g A c l at' ask failed) (hk : ask < 11) (ht : Tr w Q N t u) (hQ : ∀ x, Q x → g < x) (hm : mayT (twoT ⟨#[111, 114]⟩ t t2) = true)
    (hpart : ∀ W, Pz W g A c l at' (ask + 1) failed → Calls Tryz.prog 67 #[.pointer (some ⟨g, 0, none⟩)] W (Res W g A c l N (fun _ => False) t2 at2 (ask + 1) failed2)) :
    Calls Tryz.prog 85 #[.pointer (some ⟨g, 0, none⟩), EVt t u, .string ⟨#[79, 82]⟩, .func (.func 67) #[.pointer (some ⟨g, 0, none⟩)] #[]] w (Res w g A c l (N + 1) Q (twoT ⟨#[111, 114]⟩ t t2) at2 ask failed2) := by
  obtain ⟨B, q, rfl, hn2⟩ := ht.form
  have hgl := hz.lt
  have H0 : Hid (Chn w g A c l N Q t (.slice B t.l.length q) at' ask failed (w.heap.size + 1) [] ((w.alloc (.cells #[.string t.op, .int .i64 t.x.k, .int .i64 t.x.i, .string t.x.s, .string t.s, .slice B t.l.length q] 26)).alloc (.cells #[.string ⟨#[]⟩, .int .i64 0, .int .i64 0, .string ⟨#[]⟩, .string ⟨#[]⟩, .slice none 0 0] 26))) := Chn.start hz ht (fun j hj => absurd hj (by simp))
  have HX := Lib.hid (And.intro hpart hm)
  have HQ := Lib.hid hQ
  unfold EVt
  clear hz ht hpart hm hQ
  have hne0 : ¬ w.heap.size = g := by omega
  have hne1 : ¬ w.heap.size + 1 = g := by omega
  go_enter Tryz.func85, Tryz.ntmps85
  go_upto_region 1 with (fail)
  refine wp_gen (Chn w g A c l N Q t (.slice B t.l.length q) at' ask failed (w.heap.size + 1) []) H0.out fun w0 h0 => ?_
  clear H0
  have H0 := Lib.hid h0
  clear h0
  have k0 := H0.out.box.c0
  have k1 := H0.out.box.c1
  have k2 := H0.out.box.c2
  have k3 := H0.out.box.c3
  have k4 := H0.out.box.c4
  have k5 := H0.out.box.c5
  have r0 := H0.out.res.c0
  have r1 := H0.out.res.c1
  have r2 := H0.out.res.c2
  have r3 := H0.out.res.c3
  have r4 := H0.out.res.c4
  have r5 := H0.out.res.c5
  have rf := H0.out.rfz
  have bf := H0.out.bfz
  have hz := H0.out.lt
  have hgz := H0.out.pz.lt
  have hzy := Nat.lt_of_succ_lt hz
  simp only [Nat.zero_add] at k0 r0 k1 r1 k2 r2 k3 r3 k4 r4 k5 r5
  go_region_with (first
    | (go_at_call 104; refine (lower_or _).mono ?_; rintro e wL ⟨rfl, hbL⟩; (first | (have hcL := bcellD hbL) | (have hcL := (bcell hbL).1)); have hyL := hbL.size; (try simp at hyL); have hzL : w.heap.size < wL.heap.size := (by omega); (try have K2 := Lib.hid (K2.out.below hbL)))
    | (go_at_call 72; go_loud (refine (asked_and (N := N) g A c l at' ask at2 failed failed2 t2 _ (by first | exact H0.out.pz.drew | exact (H0.out.pz.drew.below hbL)) hk HX.out.1).mono ?_); rintro e w2 ⟨u2, rfl, ht2, hp2, hg2⟩; obtain ⟨B2, q2, rfl, _⟩ := ht2.form; unfold EVt; (first | (have hc2 := gcellD hg2) | (have hc2 := (gcell hg2).1)); have hf2 := (gcell hg2).2; have hy2 := hg2.size; (try simp at hy2); have HP2 := Lib.hid (And.intro ht2 (And.intro hp2 hg2)); clear ht2 hp2 hg2; (try have hz2 : w.heap.size < w2.heap.size := by omega); have K2 : Hid (Jn w g A c l N Q t t2 (.slice B t.l.length q) (.slice B2 t2.l.length q2) at2 ask failed2 w2) := (by first | exact Jn.mk' (H0.out.later (Below.refl w0.heap.size w0).drew) hgl HQ.out HP2.out.1 HP2.out.2.1 HP2.out.2.2 | exact Jn.mk' ((H0.out.later (Below.refl w0.heap.size w0).drew).later hbL) hgl HQ.out HP2.out.1 HP2.out.2.1 HP2.out.2.2))
    | (go_at_call 71; have hc9 := 0; go_loud (refine (checked_yes (N := N + 1) g A c l at2 ask failed2 _ (by first | exact K2.out.pz.alloc _ | exact (K2.out.pz.alloc _).below hbL) (fun b => (Q b ∧ b < w.heap.size) ∨ w.heap.size + 1 < b) (twoT ⟨#[111, 114]⟩ t t2) _ (by first | exact Jn.two ⟨#[111, 114]⟩ K2.out | exact (Jn.two ⟨#[111, 114]⟩ K2.out).below hbL) HX.out.2).mono ?_; rintro e w5 ⟨u5, rfl, ht5, hp5, hg5⟩; obtain ⟨B5, q5, rfl, _⟩ := ht5.form; unfold EVt; have HF : Hid (Jd w g A c l (N + 1) Q (twoT ⟨#[111, 114]⟩ t t2) (.slice B5 (twoT ⟨#[111, 114]⟩ t t2).l.length q5) at2 ask failed2 w5) := (by first | exact Jn.done K2.out hgl ((Below.refl _ _).alloc (Nat.le_refl _) _) ht5 hp5 hg5 | exact Jn.done K2.out hgl (((Below.refl _ _).alloc (Nat.le_refl _) _).trans (hbL.mono (by simp))) ht5 hp5 hg5); have z0 := HF.out.res.c0; have z1 := HF.out.res.c1; have z2 := HF.out.res.c2; have z3 := HF.out.res.c3; have z4 := HF.out.res.c4; have z5 := HF.out.res.c5; have zf := HF.out.rfz; have zl := HF.out.lt; simp only [Nat.zero_add] at z0 z1 z2 z3 z4 z5)))
  all_goals
    go_wp2_with (fail)
    refine bodyPost_ret (v := .agg #[.string (twoT ⟨#[111, 114]⟩ t t2).op, .int .i64 (twoT ⟨#[111, 114]⟩ t t2).x.k, .int .i64 (twoT ⟨#[111, 114]⟩ t t2).x.i, .string (twoT ⟨#[111, 114]⟩ t t2).x.s, .string (twoT ⟨#[111, 114]⟩ t t2).s, .slice B5 (twoT ⟨#[111, 114]⟩ t t2).l.length q5]) (by simp [results, Tryz.results85, go_sem, *]) rfl ?_
    exact Res.store (Q := Q) HF.out.tr HF.out.pz HF.out.gr (b := w.heap.size + 1) (by omega) hgl (fun h => by rcases h with ⟨_, h⟩ | h <;> omega) (fun x h _ => by rcases h with ⟨h, _⟩ | h; exact .inl h; exact .inr (by omega)) _ _ _ _ _ _

end Go.Proofs.YtepnfocgdcbadaaGreatDoor
