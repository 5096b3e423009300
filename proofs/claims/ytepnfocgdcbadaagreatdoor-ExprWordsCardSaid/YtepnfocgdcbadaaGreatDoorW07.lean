import Derived.Test.YtepnfocgdcbadaaGreatDoorW06
import Derived.Deep.LoopGhost
import Derived.Deep.RegionWith
import Derived.RegionTactic
import Derived.Shelf.Strings.SlTrimAscii
import Derived.Laws.AppendOwn
import Derived.Laws.OwnMore

/- How deep an expression is, and how many nodes it has: within, May. -/
namespace Go.Proofs.YtepnfocgdcbadaaGreatDoor
open Go.RowKit Go.Lib

def fmT (t : Ex) : Bool := fmB t.op t.x.k t.x.i t.x.s t.s t.l.length
def partsF (f : Ex → Int → Bool × Int) : List Ex → Int → Bool × Int
  | [], left => (true, left)
  | x :: r, left => if (f x left).1 = true then partsF f r (f x left).2 else (false, (f x left).2)
def withinF : Nat → Ex → Int → Bool × Int
  | 0, _, left => (false, left - 1)
  | d + 1, t, left => if left - 1 < 0 then (false, left - 1) else if fmT t = true then partsF (withinF d) t.l (left - 1) else (false, left - 1)
def mayT (t : Ex) : Bool := (withinF 12 t 60).1

def Bd (m : Int) (r : Bool × Int) : Prop := r.2 ≤ m ∧ -1 ≤ r.2 ∧ (r.1 = true → 0 ≤ r.2)
theorem parts_bd {f : Ex → Int → Bool × Int} (hf : ∀ x m, 0 ≤ m → Bd m (f x m)) : ∀ (l : List Ex) (m : Int), 0 ≤ m → Bd m (partsF f l m)
  | [], m, h => ⟨Int.le_refl _, by show -1 ≤ m; omega, fun _ => h⟩
  | x :: r, m, h => by
    obtain ⟨h1, h2, h3⟩ := hf x m h
    unfold partsF
    by_cases hb : (f x m).1 = true
    · rw [if_pos hb]
      obtain ⟨k1, k2, k3⟩ := parts_bd hf r (f x m).2 (h3 hb)
      exact ⟨by omega, k2, k3⟩
    · rw [if_neg hb]
      exact ⟨h1, h2, fun e => by cases e⟩
theorem within_bd : ∀ (d : Nat) (t : Ex) (m : Int), 0 ≤ m → Bd m (withinF d t m)
  | 0, t, m, h => by
    unfold withinF
    exact ⟨by show m - 1 ≤ m; omega, by show -1 ≤ m - 1; omega, fun e => by cases e⟩
  | d + 1, t, m, h => by
    unfold withinF
    by_cases h0 : m - 1 < 0
    · rw [if_pos h0]
      exact ⟨by show m - 1 ≤ m; omega, by show -1 ≤ m - 1; omega, fun e => by cases e⟩
    · rw [if_neg h0]
      by_cases hf : fmT t = true
      · rw [if_pos hf]
        obtain ⟨k1, k2, k3⟩ := parts_bd (within_bd d) t.l (m - 1) (by omega)
        exact ⟨by omega, k2, k3⟩
      · rw [if_neg hf]
        exact ⟨by show m - 1 ≤ m; omega, by show -1 ≤ m - 1; omega, fun e => by cases e⟩

/-- Block g holds the number m, and is one's own. -/
def Cnt (W : World) (g : Nat) (m : Int) : Prop := W.heap[g]? = some (.cells #[.int .i64 m] 3 (0, 0))
theorem Cnt.lt {W : World} {g : Nat} {m : Int} (h : Cnt W g m) : g < W.heap.size := (Array.getElem?_eq_some_iff.1 h).1
theorem Cnt.c0 {W : World} {g : Nat} {m : Int} (h : Cnt W g m) : W.cell? ⟨g, 0, none⟩ = some (.int .i64 m) := by rw [Lib.cell_of_heap h]; rfl
theorem Cnt.fz {W : World} {g : Nat} {m : Int} (h : Cnt W g m) (o : Nat) : W.frozen? ⟨g, o, none⟩ = false := Lib.frozen_of_heap h o
theorem Cnt.new {W : World} {n : Nat} (h : W.heap.size = n) (m : Int) : Cnt (W.alloc (.cells #[.int .i64 m] 3)) n m := by
  subst h
  show (W.heap.push _)[W.heap.size]? = _
  simp
theorem Cnt.keep {W W' : World} {g : Nat} {m : Int} {B : Nat} (h : Cnt W g m) (hb : Below B W W') (hB : g < B) : Cnt W' g m := (hb.block g hB).trans h
theorem Cnt.put {W : World} {g : Nat} {m : Int} (h : Cnt W g m) (k : Int) : Cnt (W.setCell ⟨g, 0, none⟩ (.int .i64 k)) g k := by
  unfold Cnt at h ⊢
  simp [World.setCell, Array.getElem?_modify, h]
theorem grow_set (W : World) (g : Nat) (o : Nat) (v : Value) : W.grownBy (W.setCell ⟨g, o, none⟩ v) (some g) :=
  ⟨rfl, rfl, rfl, by simp [World.setCell], fun k _ hk => Below.heap_setCell _ _ _ _ (fun e => hk (by rw [e]))⟩
theorem grow_trans {a b c : World} {row : Option Nat} (h : a.grownBy b row) (k : b.grownBy c row) : a.grownBy c row :=
  ⟨k.os.trans h.os, k.tape.trans h.tape, k.output.trans h.output, Nat.le_trans h.size k.size, fun i hi hr => (k.block i (Nat.lt_of_lt_of_le hi h.size) hr).trans (h.block i hi hr)⟩
theorem grow_refl (W : World) (row : Option Nat) : W.grownBy W row := ⟨rfl, rfl, rfl, Nat.le_refl _, fun _ _ _ => rfl⟩
theorem grow_below {W W' : World} (h : Below W.heap.size W W') (row : Option Nat) : W.grownBy W' row := ⟨h.os, h.tape, h.output, h.size, fun k hk _ => h.block k hk⟩
theorem grow_alloc (W : World) (o : Obj) (row : Option Nat) : W.grownBy (W.alloc o) row := grow_below ((Below.refl _ _).alloc (Nat.le_refl _) o) row
theorem below_grow {B : Nat} {a b c : World} {g : Nat} (h : Below B a b) (k : b.grownBy c (some g)) (hg : B ≤ g) (hB : B ≤ b.heap.size) : Below B a c :=
  ⟨k.os.trans h.os, k.tape.trans h.tape, k.output.trans h.output, Nat.le_trans h.size k.size, fun i hi => (k.block i (Nat.lt_of_lt_of_le hi hB) (fun e => by injection e with e; omega)).trans (h.block i hi)⟩

def Wit (w : World) (lb : Nat) (r : Bool × Int) (e : Ending) (w' : World) : Prop := e = .returned (.bool r.1) ∧ Cnt w' lb r.2 ∧ w.grownBy w' (some lb)
def EVt (t : Ex) (u : Value) : Value := .agg #[.string t.op, .int .i64 t.x.k, .int .i64 t.x.i, .string t.x.s, .string t.s, u]

set_option maxRecDepth 100000 in
set_option maxHeartbeats 4000000 in
theorem within_0 (d : Int) (hd : d = 0 ∨ (0 < d ∧ d ≤ 100)) (op : ByteArray) (k i : Int) (vs s : ByteArray) (A : Option Addr) (n cap : Nat) (lb : Nat) (m : Int) (w : World) (hm : 0 ≤ m) (hm' : m ≤ 1000) (hc : Cnt w lb m) (h0 : d = 0 ∨ m - 1 < 0) :
    Calls Tryz.prog 25 #[.agg #[.string op, .int .i64 k, .int .i64 i, .string vs, .string s, .slice A n cap], .int .i64 d, .pointer (some ⟨lb, 0, none⟩)] w (Wit w lb (false, m - 1)) := by
  have HC := Lib.hid hc
  clear hc
  have hlt := HC.out.lt
  have e0 := HC.out.c0
  have ef := HC.out.fz 0
  have hne : ¬ w.heap.size = lb := by omega
  have hne' : ¬ lb = w.heap.size := by omega
  by_cases hz : d = 0
  · subst hz
    clear hd h0
    go_enter Tryz.func25, Tryz.ntmps25
    go_wp2_with (fail)
    go_ret
    exact ⟨rfl, (HC.out.put _).keep ((Below.refl _ _).alloc (Nat.le_refl _) _) (by simpa [World.setCell] using hlt), grow_trans (grow_set _ _ _ _) (grow_alloc _ _ _)⟩
  · have h1 : decide (m - 1 < 0) = true := decide_eq_true (by omega)
    have h2 : (d == 0) = false := beq_eq_false_iff_ne.2 hz
    have h3 : m - 1 < 0 := by omega
    clear hd h0
    go_enter Tryz.func25, Tryz.ntmps25
    go_wp2_with (fail)
    go_ret
    exact ⟨rfl, (HC.out.put _).keep ((Below.refl _ _).alloc (Nat.le_refl _) _) (by simpa [World.setCell] using hlt), grow_trans (grow_set _ _ _ _) (grow_alloc _ _ _)⟩

/-- The world of a node that goes on: its count is written, its box is there. -/
structure Node (w : World) (lb : Nat) (t : Ex) (u : Value) (m : Int) (W : World) : Prop where
  grown : w.grownBy W (some lb)
  cnt : Cnt W lb m
  box : W.heap[w.heap.size]? = some (.cells #[.string t.op, .int .i64 t.x.k, .int .i64 t.x.i, .string t.x.s, .string t.s, u] 26 (0, 0))
theorem box_cells {W : World} {b : Nat} {t : Ex} {u : Value} (h : W.heap[b]? = some (.cells #[.string t.op, .int .i64 t.x.k, .int .i64 t.x.i, .string t.x.s, .string t.s, u] 26 (0, 0))) : ExC W ⟨b, 0, none⟩ t u := by
  refine ⟨?_, ?_, ?_, ?_, ?_, ?_⟩ <;> · rw [Lib.cell_of_heap h]; rfl

set_option maxRecDepth 100000 in
set_option maxHeartbeats 4000000 in
theorem within_f (d : Nat) (hd : d ≤ 100) (t : Ex) (u : Value) (P : Nat → Prop) (N : Nat) (lb : Nat) (m : Int) (w : World) (ht : Tr w P N t u) (hm : 1 ≤ m) (hm' : m ≤ 1000) (hc : Cnt w lb m) (hf : fmT t = false) :
    Calls Tryz.prog 25 #[EVt t u, .int .i64 ((d : Int) + 1), .pointer (some ⟨lb, 0, none⟩)] w (Wit w lb (false, m - 1)) := by
  have HC := Lib.hid hc
  have hs := ht.1
  obtain ⟨A, cap, rfl, hn⟩ := ht.form
  have HF := Lib.hid hf
  clear hc ht hf
  cases t with
  | mk op x s l =>
  obtain ⟨k, i, vs⟩ := x
  unfold EVt
  simp only [Ex.op, Ex.x, Ex.s, Ex.l] at hs hn ⊢
  have hlt := HC.out.lt
  have e0 := HC.out.c0
  have ef := HC.out.fz 0
  have hne : ¬ w.heap.size = lb := by omega
  have hne' : ¬ lb = w.heap.size := by omega
  have h1 : decide (m - 1 < 0) = false := decide_eq_false (by omega)
  have h2 : ((d : Int) + 1 == 0) = false := beq_eq_false_iff_ne.2 (by omega)
  go_enter Tryz.func25, Tryz.ntmps25
  go_wp2_with (go_at_call 34; refine (formed_any _ _ _ _ _ _ _ _ _ hn hs).mono ?_; rintro e w1 ⟨rfl, hb1⟩; rw [show fmB op k i vs s l.length = false from HF.out])
  go_ret
  exact ⟨rfl, ((HC.out.put _).keep ((Below.refl _ _).alloc (Nat.le_refl _) _) (by simpa [World.setCell] using hlt)).keep hb1 (by simp [World.setCell]; omega), grow_trans (grow_trans (grow_set _ _ _ _) (grow_alloc _ _ _)) (grow_below hb1 _)⟩

theorem Sl.at_ {w : World} {P : Nat → Prop} {N : Nat} {l : List Ex} {A : Option Addr} {c n : Nat} (h : Sl w P N l (.slice A n c)) {j : Nat} (hj : j < l.length) : ∃ a u M, A = some a ∧ P a.block ∧ ExC w (a.add (j * 6)) l[j] u ∧ Tr w P M l[j] u ∧ M < N := by
  cases N with
  | zero => obtain ⟨rfl, _⟩ := h; simp at hj
  | succ M =>
    obtain ⟨A', cap, e, hl, hh⟩ := h
    obtain ⟨a, u, e1, hp, hc, hs, hr⟩ := hh j hj
    injection e with e2 _ _
    exact ⟨a, u, M, e2.trans e1, hp, hc, ⟨hs, hr⟩, Nat.lt_succ_self _⟩

theorem parts_t {f : Ex → Int → Bool × Int} {l : List Ex} {j : Nat} (hj : j < l.length) {m : Int} (h : (f l[j] m).1 = true) : partsF f (l.drop j) m = partsF f (l.drop (j + 1)) (f l[j] m).2 := by
  rw [List.drop_eq_getElem_cons hj]
  show (if (f l[j] m).1 = true then _ else _) = _
  rw [if_pos h]
theorem parts_f {f : Ex → Int → Bool × Int} {l : List Ex} {j : Nat} (hj : j < l.length) {m : Int} (h : (f l[j] m).1 = false) : partsF f (l.drop j) m = (false, (f l[j] m).2) := by
  rw [List.drop_eq_getElem_cons hj]
  show (if (f l[j] m).1 = true then _ else _) = _
  rw [if_neg (by rw [h]; decide)]

set_option maxRecDepth 100000 in
set_option maxHeartbeats 8000000 in
theorem within_t (d : Nat) (hd : d ≤ 100) (t : Ex) (u : Value) (P : Nat → Prop) (N : Nat) (lb : Nat) (hP : ¬ P lb) (m : Int) (w : World) (ht : Tr w P N t u) (hm : 1 ≤ m) (hm' : m ≤ 1000) (hc : Cnt w lb m) (hf : fmT t = true)
    (hrec : ∀ (t : Ex) (u : Value) (M : Nat) (m : Int) (w : World), Tr w P M t u → 0 ≤ m → m ≤ 1000 → Cnt w lb m → Calls Tryz.prog 25 #[EVt t u, .int .i64 d, .pointer (some ⟨lb, 0, none⟩)] w (Wit w lb (withinF d t m))) :
    Calls Tryz.prog 25 #[EVt t u, .int .i64 ((d : Int) + 1), .pointer (some ⟨lb, 0, none⟩)] w (Wit w lb (partsF (withinF d) t.l (m - 1))) := by
  have HR := Lib.hid hrec
  have HC := Lib.hid hc
  have hs := ht.1
  have HT := Lib.hid ht
  obtain ⟨A, cap, rfl, hn⟩ := ht.form
  have HF := Lib.hid hf
  clear hc ht hf hrec
  cases t with
  | mk op x s l =>
  obtain ⟨k, i, vs⟩ := x
  unfold EVt
  simp only [Ex.op, Ex.x, Ex.s, Ex.l] at hs hn ⊢
  have hlt := HC.out.lt
  have e0 := HC.out.c0
  have ef := HC.out.fz 0
  have hne : ¬ w.heap.size = lb := by omega
  have hne' : ¬ lb = w.heap.size := by omega
  have h1 : decide (m - 1 < 0) = false := decide_eq_false (by omega)
  have h2 : ((d : Int) + 1 == 0) = false := beq_eq_false_iff_ne.2 (by omega)
  obtain ⟨n, HN⟩ : ∃ n, Hid (l.length = n) := ⟨_, Lib.hid rfl⟩
  have HS : Hid (Sl w P N l (.slice A n cap)) := HN.out ▸ HT.out.2
  rw [HN.out] at hn ⊢
  unfold maxLen at hn
  go_enter Tryz.func25, Tryz.ntmps25
  go_wp2_with (go_at_call 34; refine (formed_any _ _ _ _ _ _ _ _ _ (by unfold maxLen; omega) hs).mono ?_; rintro e w1 ⟨rfl, hb1⟩; rw [show fmB op k i vs s n = true from HN.out ▸ HF.out]; have hc1 := (bcell hb1).1; have HB1 := Lib.hid hb1; have hy1 := hb1.size; (try simp [World.setCell] at hy1); have hz1 : w.heap.size < w1.heap.size := (by omega); clear hb1)
  have HW1 : Hid (w.grownBy w1 (some lb) ∧ Cnt w1 lb (m - 1)) :=
    ⟨grow_trans (grow_trans (grow_set _ _ _ _) (grow_alloc _ _ _)) (grow_below HB1.out _), ((HC.out.put _).keep ((Below.refl _ _).alloc (Nat.le_refl _) _) (by simpa [World.setCell] using hlt)).keep HB1.out (by simp [World.setCell]; omega)⟩
  clear HB1 hc1
  go_loopw [30] (fun iv wr => ∃ (j : Nat) (q : Int), iv = .int .i64 j ∧ j ≤ n ∧ 0 ≤ q ∧ q ≤ 1000 ∧ w.grownBy wr (some lb) ∧ Cnt wr lb q ∧ Hid (partsF (withinF d) l (m - 1) = partsF (withinF d) (l.drop j) q)) (fun iv _ => n - (intOf iv).toNat)
  case atStart => exact ⟨0, m - 1, rfl, by omega, by omega, by omega, HW1.out.1, HW1.out.2, rfl⟩
  case round =>
    obtain ⟨j, q, rfl, hj, hq, hq', hg, hcn, HP⟩ := hrel
    have HG := Lib.hid (And.intro hg hcn)
    by_cases hlt1 : j < n
    · have hjl : j < l.length := by rw [HN.out]; exact hlt1
      obtain ⟨a, u', M, rfl, hp, hE, hTr, _⟩ := HS.out.at_ hjl
      obtain ⟨A', cap', hu, _⟩ := hTr.form
      obtain ⟨n', hn'⟩ : ∃ n', n' = l[j].l.length := ⟨_, rfl⟩
      rw [← hn'] at hu
      clear hn'
      subst hu
      have hal : a.block < w.heap.size := by have := hE.lt; rwa [add_block] at this
      have hanl : a.block ≠ lb := fun e => hP (e ▸ hp)
      have hblk : wr.heap[a.block]? = w.heap[a.block]? := hg.block _ hal (fun e => hanl (by injection e))
      have hE' := hE.keep (W' := wr) (by rw [add_block]; exact hblk)
      have HT' := Lib.hid (hTr.grown hg hP)
      have HX := Lib.hid (parts_t (f := withinF d) hjl (m := q))
      have HY := Lib.hid (parts_f (f := withinF d) hjl (m := q))
      have HB := Lib.hid (within_bd d l[j] q hq)
      have c0 := hE'.c0
      have c1 := hE'.c1
      have c2 := hE'.c2
      have c3 := hE'.c3
      have c4 := hE'.c4
      have c5 := hE'.c5
      have hwl := hcn.lt
      clear hE hE' hTr hblk hg hcn
      generalize l[j] = y at c0 c1 c2 c3 c4 c5 HT' HX HY HB
      cases hb : (withinF d y q).1 with
      | true =>
        have HBT := Lib.hid hb
        clear hb
        go_wp2_with (go_at_call 25; refine (HR.out y _ M q _ (HT'.out.below ((Below.refl _ _).alloc (Nat.le_refl _) _)) hq hq' (HG.out.2.keep ((Below.refl _ _).alloc (Nat.le_refl _) _) hwl)).mono ?_; rintro e w2 ⟨rfl, hcn2, hg2⟩; rw [HBT.out]; have HG2 := Lib.hid (And.intro hcn2 hg2); clear hcn2 hg2)
        go_roundw
        case rel => exact ⟨j + 1, _, by go_num, by omega, HB.out.2.2 HBT.out, by have := HB.out.1; omega, grow_trans (grow_trans HG.out.1 (grow_alloc _ _ _)) HG2.out.2, HG2.out.1, HP.out.trans (HX.out HBT.out)⟩
        case measure => simp [intOf]; omega
      | false =>
        have HBT := Lib.hid hb
        clear hb
        go_wp2_with (go_at_call 25; refine (HR.out y _ M q _ (HT'.out.below ((Below.refl _ _).alloc (Nat.le_refl _) _)) hq hq' (HG.out.2.keep ((Below.refl _ _).alloc (Nat.le_refl _) _) hwl)).mono ?_; rintro e w2 ⟨rfl, hcn2, hg2⟩; rw [HBT.out]; have HG2 := Lib.hid (And.intro hcn2 hg2); clear hcn2 hg2)
        go_ret
        unfold Wit
        rw [HP.out, HY.out HBT.out]
        exact ⟨rfl, HG2.out.1, grow_trans (grow_trans HG.out.1 (grow_alloc _ _ _)) HG2.out.2⟩
    · obtain rfl : j = n := by omega
      clear hg hcn
      go_wp2_with (fail)
      go_ret
      unfold Wit
      rw [HP.out, List.drop_eq_nil_of_le (by rw [HN.out]; exact Nat.le_refl _)]
      exact ⟨rfl, HG.out.2, HG.out.1⟩

theorem within_any (P : Nat → Prop) (lb : Nat) (hP : ¬ P lb) : ∀ (d : Nat), d ≤ 100 → ∀ (t : Ex) (u : Value) (N : Nat) (m : Int) (w : World), Tr w P N t u → 0 ≤ m → m ≤ 1000 → Cnt w lb m →
    Calls Tryz.prog 25 #[EVt t u, .int .i64 d, .pointer (some ⟨lb, 0, none⟩)] w (Wit w lb (withinF d t m))
  | 0, _, t, u, N, m, w, ht, hm, hm', hc => by
    obtain ⟨A, cap, rfl, _⟩ := ht.form
    exact within_0 0 (.inl rfl) _ _ _ _ _ _ _ _ lb m w hm hm' hc (.inl rfl)
  | d + 1, hd, t, u, N, m, w, ht, hm, hm', hc => by
    by_cases h1 : m - 1 < 0
    · obtain ⟨A, cap, rfl, _⟩ := ht.form
      have e : withinF (d + 1) t m = (false, m - 1) := by unfold withinF; rw [if_pos h1]
      rw [e]
      exact within_0 _ (.inr ⟨by omega, by omega⟩) _ _ _ _ _ _ _ _ lb m w hm hm' hc (.inr h1)
    · cases hf : fmT t with
      | true =>
        have e : withinF (d + 1) t m = partsF (withinF d) t.l (m - 1) := by unfold withinF; rw [if_neg h1, if_pos hf]
        rw [e]
        exact within_t d (by omega) t u P N lb hP m w ht (by omega) hm' hc hf (fun t u M m w h1 h2 h3 h4 => within_any P lb hP d (by omega) t u M m w h1 h2 h3 h4)
      | false =>
        have e : withinF (d + 1) t m = (false, m - 1) := by unfold withinF; rw [if_neg h1, if_neg (by rw [hf]; decide)]
        rw [e]
        exact within_f d (by omega) t u P N lb m w ht (by omega) hm' hc hf

set_option maxRecDepth 100000 in
set_option maxHeartbeats 4000000 in
theorem emay_any (P : Nat → Prop) (N : Nat) (t : Ex) (u : Value) (w : World) (ht : Tr w P N t u) :
    Calls Tryz.prog 9 #[EVt t u] w fun e w' => e = .returned (.bool (mayT t)) ∧ Below w.heap.size w w' := by
  have HT := Lib.hid ht
  obtain ⟨A, cap, rfl, hn⟩ := ht.form
  clear ht
  have HQ : Hid (Tr ((w.alloc (.cells #[.string t.op, .int .i64 t.x.k, .int .i64 t.x.i, .string t.x.s, .string t.s, .slice A t.l.length cap] 26)).alloc (.cells #[.int .i64 60] 3)) (fun b => b < w.heap.size) N t (.slice A t.l.length cap)) :=
    HT.out.keep (fun b _ hl => by rw [Below.heap_alloc _ _ _ (by simp; omega), Below.heap_alloc _ _ _ hl]) (fun b _ hl => hl)
  obtain ⟨n, HN⟩ : ∃ n, Hid (t.l.length = n) := ⟨_, Lib.hid rfl⟩
  have HW : Hid (∀ W, Tr W (fun b => b < w.heap.size) N t (.slice A t.l.length cap) → Cnt W (w.heap.size + 1) 60 → Calls Tryz.prog 25 #[EVt t (.slice A t.l.length cap), .int .i64 12, .pointer (some ⟨w.heap.size + 1, 0, none⟩)] W (Wit W (w.heap.size + 1) (withinF 12 t 60))) :=
    fun W h1 h2 => within_any (fun b => b < w.heap.size) _ (by omega) 12 (by omega) t _ N 60 W h1 (by omega) (by omega) h2
  unfold EVt at HW ⊢
  rw [HN.out] at hn HW ⊢
  rw [HN.out] at HQ
  unfold maxLen at hn
  go_enter Tryz.func9, Tryz.ntmps9
  go_wp2_with (go_at_call 25; refine (HW.out _ HQ.out (Cnt.new (by simp) _)).mono ?_; rintro e w1 ⟨rfl, _, hg⟩)
  go_ret
  exact ⟨rfl, below_grow (((Below.refl _ _).alloc (Nat.le_refl _) _).alloc (by simp) _) hg (by simp) (by simp; omega)⟩
end Go.Proofs.YtepnfocgdcbadaaGreatDoor

/- The token with which a text begins. -/
namespace Go.Proofs.YtepnfocgdcbadaaGreatDoor
open Go.RowKit Go.Lib

theorem qN_some {s : ByteArray} {x r : List UInt8} (h1 : 1 ≤ s.size) (h : qscan (s.data.toList.drop 1) = some (x, r)) : qN s.size (s.data.toList.drop 1) = s.size - r.length ∧ r.length + 2 ≤ s.size := by
  obtain ⟨h2, _⟩ := qscan_some _ _ _ _ (Nat.le_refl _) h
  have h3 := congrArg List.length h2
  rw [List.length_drop, ← Lib.size_eq] at h3
  simp at h3
  unfold qN
  rw [h]
  exact ⟨rfl, by omega⟩
theorem take_list (s : ByteArray) (n : Nat) : (s.extract 0 n).data.toList = s.data.toList.take n := by
  simp [ByteArray.extract, ByteArray.data_append, ByteArray.copySlice]
/-- The octets of a text in quotes are a value's text just if the text is one that may be. -/
theorem quote_txt (x : List UInt8) (h : mayB 2 0 ⟨x.toArray⟩ = true) : txtO 2 0 ⟨x.toArray⟩ = 39 :: (dbl x ++ [39]) := by
  unfold txtO
  rw [h]
  simp
theorem quote_only {x : List UInt8} {k i : Int} {S : ByteArray} (hm : mayB k i S = true) (h : txtO k i S = 39 :: (dbl x ++ [39])) : mayB 2 0 ⟨x.toArray⟩ = true := by
  cases four k i S hm with
  | null hk hi hs ht => rw [ht] at h; simp at h
  | num hk hs ht =>
    rw [ht] at h
    exact absurd h (itoa_no (by decide) (.inl (by decide)))
  | text hk hi hz hc ht =>
    rw [ht] at h
    have e := dbl_inj _ _ (List.append_cancel_right (List.cons.inj h).2)
    rw [← e, hk.symm, ← hi]
    simpa using hm
  | no hk hi hs ht => rw [ht] at h; simp at h
  | yes hk hi hs ht => rw [ht] at h; simp at h
theorem quote_cut {s : ByteArray} {x r : List UInt8} (h1 : 1 ≤ s.size) (h0 : s[0] = 39) (h : qscan (s.data.toList.drop 1) = some (x, r)) : (s.extract 0 (s.size - r.length)).data.toList = 39 :: (dbl x ++ [39]) := by
  obtain ⟨h2, _⟩ := qscan_some _ _ _ _ (Nat.le_refl _) h
  have h3 : 0 < s.data.toList.length := by rw [← Lib.size_eq]; omega
  have h4 : s.data.toList = 39 :: (dbl x ++ 39 :: r) := by
    rw [← h2, ← h0]
    exact (List.drop_eq_getElem_cons h3)
  rw [take_list, Lib.size_eq, h4]
  have e : (39 :: (dbl x ++ 39 :: r) : List UInt8) = (39 :: (dbl x ++ [39])) ++ r := by simp
  rw [e, List.take_append_of_le_length (by simp; omega), List.take_of_length_le (by simp; omega)]

theorem no_text_nil : ∀ k i S, In64 i → mayB k i S = true → txtO k i S ≠ [] := by
  intro k i S hi hm e
  cases four k i S hm with
  | null hk hi hs ht => rw [ht] at e; cases e
  | num hk hs ht => obtain ⟨c, l, e1, _⟩ := itoa_head i; rw [ht, e1] at e; cases e
  | text hk hi hz hc ht => rw [ht] at e; cases e
  | no hk hi hs ht => rw [ht] at e; cases e
  | yes hk hi hs ht => rw [ht] at e; cases e
/-- What the document of tokens says of a text's beginning, as the program hands it on. -/
def tkV (t : Option (Tk × Nat)) : Value := match t with
  | none => .tuple #[.agg #[.int .i64 0, .string ⟨#[]⟩], .int .i64 0]
  | some (t, n) => .tuple #[.agg #[.int .i64 t.k, .string ⟨t.s.toArray⟩], .int .i64 n]
theorem list_head {s : ByteArray} (h : 0 < s.size) : ∃ r, s.data.toList = s[0] :: r ∧ r = s.data.toList.drop 1 := by
  have h3 : 0 < s.data.toList.length := by rw [← Lib.size_eq]; omega
  exact ⟨_, (List.drop_eq_getElem_cons h3), rfl⟩
end Go.Proofs.YtepnfocgdcbadaaGreatDoor

/- The token with which a text begins: first. -/
namespace Go.Proofs.YtepnfocgdcbadaaGreatDoor
open Go.RowKit Go.Lib

/-- The result's box, while the kinds are gone through. -/
structure W2 (w W : World) : Prop where
  below : Below w.heap.size w W
  r0 : W.cell? ⟨w.heap.size, 0, none⟩ = some (.int .i64 0)
  r1 : W.cell? ⟨w.heap.size, 1, none⟩ = some (.string ⟨#[]⟩)
  f : ∀ o, W.frozen? ⟨w.heap.size, o, none⟩ = false
theorem W2.lt {w W : World} (h : W2 w W) : w.heap.size < W.heap.size := World.block_lt_of_cell? _ _ h.r0
theorem W2.later {w W W' : World} (h : W2 w W) (hb : Below W.heap.size W W') : W2 w W' :=
  ⟨h.below.trans (hb.mono h.below.size), (hb.cell (p := ⟨_, _, none⟩) h.lt).trans h.r0, (hb.cell (p := ⟨_, _, none⟩) h.lt).trans h.r1, fun o => (hb.frozen (p := ⟨_, o, none⟩) h.lt).trans (h.f o)⟩
theorem W2.alloc {w W : World} (h : W2 w W) (o : Obj) : W2 w (W.alloc o) := h.later ((Below.refl _ _).alloc (Nat.le_refl _) o)
theorem W2.start (w : World) (t : TypeId) : W2 w (w.alloc (.cells #[.int .i64 0, .string ⟨#[]⟩] t)) :=
  ⟨(Below.refl _ _).alloc (Nat.le_refl _) _, by simp [go_sem], by simp [go_sem], fun o => by simp [go_sem]⟩
theorem W2.later' {w W W1 W' : World} {o : Obj} (h : W2 w W) (e : W1 = W.alloc o) (hb : Below W1.heap.size W1 W') : W2 w W' := (h.alloc o).later (e ▸ hb)

theorem kix0 (W : World) : (Instr.index 127 (.agg #[.int .i64 1, .int .i64 16, .func (.func 96) #[] #[], .func (.func 97) #[] #[], .int .i64 2, .int .i64 19, .func (.func 109) #[] #[], .func (.func 109) #[] #[], .int .i64 4, .int .i64 1, .func (.func 140) #[] #[], .func (.func 141) #[] #[]]) (.int .i64 0)).run Tryz.prog W = .ok (.agg #[.int .i64 1, .int .i64 16, .func (.func 96) #[] #[], .func (.func 97) #[] #[]]) W := by kernel_rfl
theorem kix1 (W : World) : (Instr.index 127 (.agg #[.int .i64 1, .int .i64 16, .func (.func 96) #[] #[], .func (.func 97) #[] #[], .int .i64 2, .int .i64 19, .func (.func 109) #[] #[], .func (.func 109) #[] #[], .int .i64 4, .int .i64 1, .func (.func 140) #[] #[], .func (.func 141) #[] #[]]) (.int .i64 1)).run Tryz.prog W = .ok (.agg #[.int .i64 2, .int .i64 19, .func (.func 109) #[] #[], .func (.func 109) #[] #[]]) W := by kernel_rfl
theorem kix2 (W : World) : (Instr.index 127 (.agg #[.int .i64 1, .int .i64 16, .func (.func 96) #[] #[], .func (.func 97) #[] #[], .int .i64 2, .int .i64 19, .func (.func 109) #[] #[], .func (.func 109) #[] #[], .int .i64 4, .int .i64 1, .func (.func 140) #[] #[], .func (.func 141) #[] #[]]) (.int .i64 2)).run Tryz.prog W = .ok (.agg #[.int .i64 4, .int .i64 1, .func (.func 140) #[] #[], .func (.func 141) #[] #[]]) W := by kernel_rfl

theorem tw_tw (q : UInt8 → Bool) : ∀ r : List UInt8, (r.takeWhile q).takeWhile q = r.takeWhile q
  | [] => rfl
  | c :: r => by
    by_cases h : q c = true
    · rw [List.takeWhile_cons, if_pos h, List.takeWhile_cons, if_pos h, tw_tw q r]
    · rw [List.takeWhile_cons, if_neg h]; rfl
theorem tog_take {p q : UInt8 → Bool} {l : List UInt8} (h : 1 ≤ tog p q l) : tog p q (l.take (tog p q l)) = tog p q l ∧ tog p q l ≤ l.length := by
  cases l with
  | nil => simp [tog] at h
  | cons c r =>
    by_cases hp : p c
    · have e : tog p q (c :: r) = (r.takeWhile q).length + 1 := by rw [tog, if_pos hp]; omega
      have hl := (List.takeWhile_sublist q (l := r)).length_le
      rw [e, List.take_succ_cons, tog, if_pos hp]
      have e2 : r.take (r.takeWhile q).length = r.takeWhile q := by
        conv => lhs; arg 2; rw [← List.takeWhile_append_dropWhile (p := q) (l := r)]
        rw [List.take_append_of_le_length (Nat.le_refl _), List.take_of_length_le (Nat.le_refl _)]
      have e3 : (r.takeWhile q).takeWhile q = r.takeWhile q := tw_tw q r
      rw [e2, e3]
      simp
      omega
    · rw [tog, if_neg hp] at h
      omega
theorem tog_le (p q : UInt8 → Bool) (l : List UInt8) : tog p q l ≤ l.length := by
  by_cases h : 1 ≤ tog p q l
  · exact (tog_take h).2
  · omega
theorem kmay_take (p q : UInt8 → Bool) (most : Nat) (l : List UInt8) : kmay p q most (l.take (tog p q l)) = (decide (1 ≤ tog p q l) && decide (tog p q l ≤ most)) := by
  by_cases h : 1 ≤ tog p q l
  · obtain ⟨h1, h2⟩ := tog_take h
    have hl : (l.take (tog p q l)).length = tog p q l := by rw [List.length_take]; omega
    have he : (l.take (tog p q l)).isEmpty = false := by
      cases hx : l.take (tog p q l) with
      | nil => rw [hx] at hl; simp at hl; omega
      | cons _ _ => rfl
    unfold kmay
    rw [he, hl, h1, decide_eq_true h]
    simp
  · have h0 : tog p q l = 0 := by omega
    rw [h0]
    simp [kmay]
theorem sig_not {c : UInt8} (h : sigB c = true) : letB c = false ∧ digB c = false := by
  have h := List.contains_iff_mem.1 h
  simp only [sigL, List.mem_cons, List.mem_nil_iff, or_false] at h
  rcases h with rfl | rfl | rfl | rfl | rfl | rfl | rfl | rfl <;> decide
theorem let_not {c : UInt8} (h : letB c = true) : digB c = false := by
  unfold letB at h
  unfold digB
  simp at h
  simp
  omega
theorem tog_zero {p q : UInt8 → Bool} {c : UInt8} {r : List UInt8} (h : p c = false) : tog p q (c :: r) = 0 := by rw [tog, h]; rfl
theorem tog_on {p q : UInt8 → Bool} {c : UInt8} {r : List UInt8} (h : p c = true) : tog p q (c :: r) = 1 + (r.takeWhile q).length := by rw [tog, h]; rfl
theorem none_none (r : List UInt8) : r.takeWhile nonB = [] := by cases r <;> simp [nonB]
theorem bs_take (s : ByteArray) (n : Nat) : s.extract 0 n = ⟨(s.data.toList.take n).toArray⟩ := bs_eq (take_list s n)
end Go.Proofs.YtepnfocgdcbadaaGreatDoor

/- Rows of tokens in memory; Cut. -/
namespace Go.Proofs.YtepnfocgdcbadaaGreatDoor
open Go.RowKit Go.Lib

theorem ascii_two : ∀ (j : Nat) (b : UInt8), (⟨#[32, 10]⟩ : ByteArray).data.toList[j]? = some b → b.toNat < 128 := by
  intro j b h
  match j with
  | 0 => simp at h; subst h; decide
  | 1 => simp at h; subst h; decide
  | j + 2 => simp at h
def Tk.cells (x : Tk) : List Value := [.int .i64 x.k, .string ⟨x.s.toArray⟩]
def tcells (l : List Tk) : List Value := l.flatMap Tk.cells
theorem tcells_len (l : List Tk) : (tcells l).length = l.length * 2 := by
  induction l with
  | nil => rfl
  | cons x l ih => simp only [tcells, List.flatMap_cons, List.length_append] at ih ⊢; rw [ih]; simp [Tk.cells]; omega
theorem tcells_snoc (l : List Tk) (x : Tk) : tcells (l ++ [x]) = tcells l ++ x.cells := by simp [tcells]
theorem tcells_app (l r : List Tk) : tcells (l ++ r) = tcells l ++ tcells r := by simp [tcells]
theorem tcells_one (l : List Tk) : ∀ u ∈ tcells l, u.oneCell' = true := by
  intro u hu
  simp only [tcells, List.mem_flatMap, Tk.cells] at hu
  obtain ⟨x, _, hx⟩ := hu
  simp at hx
  rcases hx with rfl | rfl <;> rfl
theorem infoTok : (Tryz.prog.info? 48).map (fun i => (i.zero, i.size, i.bytes)) = some (some (.agg #[.int .i64 0, .string ⟨#[]⟩]), 2, 24) := by kernel_rfl
theorem tnew_cells {W : World} {t : TypeId} {x : Tk} : ∀ j u, x.cells[j]? = some u → (W.alloc (.cells #[.int .i64 x.k, .string ⟨x.s.toArray⟩] t)).cell? ((⟨W.heap.size, 0, none⟩ : Addr).add j) = some u := by
  intro j u h
  match j with
  | 0 => simp [Tk.cells] at h; subst h; simp [Addr.add, go_sem]
  | 1 => simp [Tk.cells] at h; subst h; simp [Addr.add, go_sem]
  | j + 2 => simp [Tk.cells] at h
/-- A row of tokens of the call's own. -/
def OwnT (W : World) (B : Nat) (v : Value) (l : List Tk) : Prop := W.ownsRow B 48 2 v l.length (tcells l)
theorem OwnT.below {W W' : World} {B C : Nat} {v : Value} {l : List Tk} (h : OwnT W B v l) (hb : Below C W W') (hC : W.heap.size ≤ C) : OwnT W' B v l :=
  World.ownsRow.kept (row := none) h ⟨hb.os, hb.tape, hb.output, hb.size, fun q hq _ => hb.block q (by omega)⟩ (by cases h : Value.ownBlock v with | none => exact .inl rfl | some _ => exact .inr (by simp))
theorem OwnT.alloc {W : World} {B : Nat} {v : Value} {l : List Tk} (h : OwnT W B v l) (o : Obj) : OwnT (W.alloc o) B v l := World.ownsRow.alloc h o
theorem OwnT.set {W : World} {B b o : Nat} {v u : Value} {l : List Tk} (h : OwnT W B v l) (hb : ∀ g, v.ownBlock = some g → g < b) : OwnT (W.setCell ⟨b, o, none⟩ u) B v l :=
  World.ownsRow.kept (row := some b) h ⟨rfl, rfl, rfl, by simp [World.setCell], fun q _ hq => Below.heap_setCell _ _ _ _ (fun e => hq (by simp [e]))⟩ (by
    cases hv : v.ownBlock with
    | none => exact .inl rfl
    | some g => refine .inr fun e => ?_; injection e with e; have := hb g hv; omega)
theorem OwnT.mono {W : World} {B B' : Nat} {v : Value} {l : List Tk} (h : OwnT W B v l) (hB : B' ≤ B) : OwnT W B' v l := by
  refine ⟨h.1, ?_⟩
  rcases h.2 with h' | ⟨g, cap, cur, e, hb, r⟩
  · exact .inl h'
  · exact .inr ⟨g, cap, cur, e, Nat.le_trans hB hb, r⟩
theorem OwnT.form {W : World} {B : Nat} {v : Value} {l : List Tk} (h : OwnT W B v l) : ∃ A cap, v = .slice A l.length cap := by
  rcases h.2 with ⟨rfl, h0⟩ | ⟨g, cap, cur, rfl, _⟩
  · exact ⟨none, 0, by rw [h0]⟩
  · exact ⟨_, _, rfl⟩
theorem skip_skip (l : List UInt8) : skip (skip l) = skip l := by
  unfold skip
  induction l with
  | nil => rfl
  | cons c l ih =>
    rw [List.dropWhile_cons]
    split
    · exact ih
    · rename_i h
      rw [List.dropWhile_cons, if_neg h]
theorem cut_skip (l : List UInt8) : cut (skip l) = cut l := by
  cases h : fst (skip l) with
  | none =>
    by_cases hn : skip l = []
    · rw [cut_end hn, cut_end (by rw [skip_skip]; exact hn)]
    · rw [cut_none h hn, cut_none (by rw [skip_skip]; exact h) (by rw [skip_skip]; exact hn)]
  | some y =>
    obtain ⟨t, n⟩ := y
    rw [cut_more h, cut_more (l := skip l) (by rw [skip_skip]; exact h), skip_skip]
/-- A text's tokens, if there are no more than may be. -/
def cutR (l : List UInt8) : Option (List Tk) := match cut l with
  | none => none
  | some ts => if ts.length ≤ 400 then some ts else none
theorem cutR_none {l : List UInt8} (h : cut l = none) : cutR l = none := by unfold cutR; rw [h]
theorem cutR_some {l : List UInt8} {ts : List Tk} (h : cut l = some ts) (hl : ts.length ≤ 400) : cutR l = some ts := by unfold cutR; rw [h]; simp [hl]
theorem cutR_many {l : List UInt8} {m : List Tk} {o : Option (List Tk)} {d : List Tk} (h : cut l = (o.map (m ++ ·)).map (d ++ ·)) (hl : 400 < d.length + m.length) : cutR l = none := by
  unfold cutR
  rw [h]
  cases o with
  | none => rfl
  | some x =>
    show (if (d ++ (m ++ x)).length ≤ 400 then _ else _) = _
    rw [if_neg (by simp; omega)]
def CutR (l : List UInt8) (B : Nat) (e : Ending) (W : World) : Prop :=
  (∃ v ts, cutR l = some ts ∧ e = .returned (.tuple #[v, .int .i64 0]) ∧ OwnT W B v ts) ∨ (cutR l = none ∧ e = .returned (.tuple #[.slice none 0 0, .int .i64 2]))
theorem map_map_one {o : Option (List Tk)} {d : List Tk} {t : Tk} : (o.map (t :: ·)).map (d ++ ·) = o.map ((d ++ [t]) ++ ·) := by cases o <;> simp

end Go.Proofs.YtepnfocgdcbadaaGreatDoor

/- Rows of tokens: Same; the law's few; the chapter's examples (awake). -/
namespace Go.Proofs.YtepnfocgdcbadaaGreatDoor
open Go.RowKit Go.Lib

theorem add_blk (a : Addr) (n : Nat) : (a.add n).block = a.block := by unfold Addr.add; split <;> rfl
/-- Token x lies at this address. -/
structure TkAt (W : World) (a : Addr) (x : Tk) : Prop where
  k : W.cell? a = some (.int .i64 x.k)
  s : W.cell? ⟨a.block, a.off + 1, none⟩ = some (.string ⟨x.s.toArray⟩)
theorem TkAt.keep {W W' : World} {a : Addr} {x : Tk} {B : Nat} (h : TkAt W a x) (hb : Below B W W') (hB : a.block < B) : TkAt W' a x :=
  ⟨(hb.cell hB).trans h.k, (hb.cell (p := ⟨a.block, _, none⟩) hB).trans h.s⟩
theorem TkAt.det {W W' : World} {a : Addr} {x : Tk} (h : TkAt W a x) (hb : Below W.drew.heap.size W.drew W') (hB : a.block < W.heap.size) : TkAt W' a x :=
  ⟨(hb.cell (p := a) hB).trans h.k, (hb.cell (p := ⟨a.block, _, none⟩) hB).trans h.s⟩
/-- The slice of n elements at A reads as these tokens; it lies below block B. -/
def Toks (W : World) (B : Nat) (A : Option Addr) (n : Nat) (l : List Tk) : Prop :=
  l.length = n ∧ ∀ j (h : j < l.length), ∃ a, A = some a ∧ TkAt W (a.add (j * 2)) l[j] ∧ a.block < B
theorem Toks.keep {W W' : World} {B : Nat} {A : Option Addr} {n : Nat} {l : List Tk} (h : Toks W B A n l) (hb : Below B W W') : Toks W' B A n l :=
  ⟨h.1, fun j hj => by
    obtain ⟨a, e, h1, h2⟩ := h.2 j hj
    exact ⟨a, e, h1.keep hb (by rw [add_blk]; exact h2), h2⟩⟩
theorem Toks.more {W : World} {B B' : Nat} {A : Option Addr} {n : Nat} {l : List Tk} (h : Toks W B A n l) (hB : B ≤ B') : Toks W B' A n l :=
  ⟨h.1, fun j hj => by
    obtain ⟨a, e, h1, h2⟩ := h.2 j hj
    exact ⟨a, e, h1, by omega⟩⟩
theorem Toks.later {W W' : World} {A : Option Addr} {n : Nat} {l : List Tk} (h : Toks W W.heap.size A n l) (hb : Below W.heap.size W W') : Toks W' W'.heap.size A n l := (h.keep hb).more hb.size
theorem Toks.at_ {W : World} {B : Nat} {A : Option Addr} {n : Nat} {l : List Tk} (h : Toks W B A n l) {k : Nat} (hk : k < n) : ∃ a x, A = some a ∧ l[k]? = some x ∧ TkAt W (a.add (k * 2)) x ∧ a.block < B := by
  obtain ⟨h1, h2⟩ := h
  obtain ⟨a, e, h3, h4⟩ := h2 k (by omega)
  exact ⟨a, l[k]'(by omega), e, List.getElem?_eq_getElem _, h3, h4⟩
theorem tcells_at (l : List Tk) : ∀ j (h : j < l.length), (tcells l)[j * 2]? = some (.int .i64 l[j].k) ∧ (tcells l)[j * 2 + 1]? = some (.string ⟨l[j].s.toArray⟩) := by
  induction l with
  | nil => intro j h; simp at h
  | cons x l ih =>
    intro j h
    cases j with
    | zero => simp [tcells, Tk.cells]
    | succ j =>
      have := ih j (by simpa using h)
      have e : tcells (x :: l) = x.cells ++ tcells l := by simp [tcells]
      have hl : x.cells.length = 2 := rfl
      rw [e]
      refine ⟨?_, ?_⟩
      · rw [List.getElem?_append_right (by rw [hl]; omega), hl, show (j + 1) * 2 - 2 = j * 2 by omega]; exact this.1
      · rw [List.getElem?_append_right (by rw [hl]; omega), hl, show (j + 1) * 2 + 1 - 2 = j * 2 + 1 by omega]; exact this.2
theorem OwnT.toks {W : World} {B : Nat} {v : Value} {l : List Tk} (h : OwnT W B v l) : ∃ A cap, v = .slice A l.length cap ∧ Toks W W.heap.size A l.length l := by
  have h' := h
  rcases h.2 with ⟨rfl, h0⟩ | ⟨g, cap, cur, rfl, hB, hg, hc, hm, hs, ht⟩
  · exact ⟨none, 0, by rw [h0], rfl, fun j hj => absurd hj (by omega)⟩
  · refine ⟨_, cap, rfl, rfl, fun j hj => ⟨_, rfl, ?_, (Array.getElem?_eq_some_iff.1 hg).1⟩⟩
    have hadd : (⟨g, 0, none⟩ : Addr).add (j * 2) = ⟨g, j * 2, none⟩ := by unfold Addr.add; split <;> simp_all
    obtain ⟨c0, c1⟩ := tcells_at l j hj
    rw [hadd]
    exact ⟨(World.ownsRow.cellAt h' (j * 2) (by omega)).trans c0, (World.ownsRow.cellAt h' (j * 2 + 1) (by omega)).trans c1⟩
theorem tk_eq {x y : Tk} (h1 : x.k = y.k) (h2 : x.s = y.s) : x = y := by cases x; cases y; simp only at h1 h2; rw [h1, h2]
def sameT (x y : Tk) : Bool := decide (x.k = y.k) && decide (x.s = y.s)
theorem sameT_iff (x y : Tk) : sameT x y = true ↔ x = y := by
  unfold sameT
  simp only [Bool.and_eq_true, decide_eq_true_eq]
  exact ⟨fun ⟨h1, h2⟩ => tk_eq h1 h2, fun h => by rw [h]; exact ⟨rfl, rfl⟩⟩
def sameTL : List Tk → List Tk → Bool
  | [], [] => true
  | x :: l, y :: m => sameT x y && sameTL l m
  | _, _ => false
theorem sameTL_iff : ∀ (l m : List Tk), sameTL l m = true ↔ l = m
  | [], [] => by simp [sameTL]
  | [], _ :: _ => by simp [sameTL]
  | _ :: _, [] => by simp [sameTL]
  | x :: l, y :: m => by
    simp only [sameTL, Bool.and_eq_true, sameT_iff, sameTL_iff l m, List.cons.injEq]
theorem sameTL_self (l : List Tk) : sameTL l l = true := (sameTL_iff l l).2 rfl
theorem sameTL_ne {l m : List Tk} (h : l ≠ m) : sameTL l m = false := by
  cases hs : sameTL l m with
  | false => rfl
  | true => exact absurd ((sameTL_iff l m).1 hs) h
theorem tdrop_at {l : List Tk} {k : Nat} {x : Tk} (h : l[k]? = some x) : l.drop k = x :: l.drop (k + 1) := by
  have hlt : k < l.length := (List.getElem?_eq_some_iff.1 h).1
  rw [List.drop_eq_getElem_cons hlt]
  rw [List.getElem?_eq_getElem hlt] at h
  rw [Option.some.inj h]
theorem ttake_at {l : List Tk} {k : Nat} {x : Tk} (h : l[k]? = some x) : l.take (k + 1) = l.take k ++ [x] := by rw [List.take_add_one, h]; rfl

/-- A text of which no more is looked at. -/
def few3S (s : ByteArray) : ByteArray := if s.size ≤ 1200 then s else s.extract 0 1200
theorem few3_size (s : ByteArray) : (few3S s).size ≤ 1200 := by
  unfold few3S
  split
  · assumption
  · rw [ByteArray.size_extract]; omega
end Go.Proofs.YtepnfocgdcbadaaGreatDoor

/- The chapter's examples (awake). -/
namespace Go.Proofs.YtepnfocgdcbadaaGreatDoor
open Go.RowKit Go.Lib

theorem fst_a3 : fst (skip [97, 61, 49]) = some (⟨1, [97]⟩, 1) := by rfl
theorem fst_a2 : fst (skip [61, 49]) = some (⟨4, [61]⟩, 1) := by rfl
theorem fst_a1 : fst (skip [49]) = some (⟨2, [49]⟩, 1) := by rfl
theorem cut_a : cutR [97, 61, 49] = some [⟨1, [97]⟩, ⟨4, [61]⟩, ⟨2, [49]⟩] := by
  refine cutR_some ?_ (by simp)
  rw [show cut [97, 61, 49] = (cut [61, 49]).map ((⟨1, [97]⟩ : Tk) :: ·) from cut_more (l := [97, 61, 49]) (n := 1) fst_a3]
  rw [show cut [61, 49] = (cut [49]).map ((⟨4, [61]⟩ : Tk) :: ·) from cut_more (l := [61, 49]) (n := 1) fst_a2]
  rw [show cut [49] = (cut []).map ((⟨2, [49]⟩ : Tk) :: ·) from cut_more (l := [49]) (n := 1) fst_a1]
  rw [cut_end rfl]
  rfl
theorem fst_b7 : fst (skip [39, 105, 116, 39, 39, 115, 39]) = some (⟨3, [105, 116, 39, 115]⟩, 7) := by 
  have h : mayB 2 0 ⟨[105, 116, 39, 115].toArray⟩ = true := by decide
  show fst [39, 105, 116, 39, 39, 115, 39] = _
  simp [fst, qscan]
  exact h
theorem cut_b : cutR [39, 105, 116, 39, 39, 115, 39] = some [⟨3, [105, 116, 39, 115]⟩] := by
  refine cutR_some ?_ (by simp)
  rw [show cut [39, 105, 116, 39, 39, 115, 39] = (cut []).map ((⟨3, [105, 116, 39, 115]⟩ : Tk) :: ·) from cut_more (l := [39, 105, 116, 39, 39, 115, 39]) (n := 7) fst_b7]
  rw [cut_end rfl]
  rfl
theorem fst_c2 : fst (skip [49, 97]) = some (⟨2, [49]⟩, 1) := by rfl
theorem fst_c1 : fst (skip [97]) = some (⟨1, [97]⟩, 1) := by rfl
theorem cut_c : cutR [49, 97] = some [⟨2, [49]⟩, ⟨1, [97]⟩] := by
  refine cutR_some ?_ (by simp)
  rw [show cut [49, 97] = (cut [97]).map ((⟨2, [49]⟩ : Tk) :: ·) from cut_more (l := [49, 97]) (n := 1) fst_c2]
  rw [show cut [97] = (cut []).map ((⟨1, [97]⟩ : Tk) :: ·) from cut_more (l := [97]) (n := 1) fst_c1]
  rw [cut_end rfl]
  rfl
theorem cut_d : cutR [59] = none := cutR_none (cut_none (l := [59]) rfl (by decide))
/-- Tokens that the call has just laid. -/
theorem lit_toks {W : World} {t : TypeId} (l : List Tk) (cs : Array Value) (hc : cs = (tcells l).toArray) : Toks (W.alloc (.cells cs t)) (W.heap.size + 1) (some ⟨W.heap.size, 0, none⟩) l.length l := by
  subst hc
  refine ⟨rfl, fun j hj => ⟨_, rfl, ?_, by simp⟩⟩
  have hadd : (⟨W.heap.size, 0, none⟩ : Addr).add (j * 2) = ⟨W.heap.size, j * 2, none⟩ := by unfold Addr.add; split <;> simp_all
  obtain ⟨c0, c1⟩ := tcells_at l j hj
  rw [hadd]
  have key : ∀ k, (W.alloc (.cells (tcells l).toArray t)).cell? ⟨W.heap.size, k, none⟩ = (tcells l)[k]? := fun k => by
    rw [cell_of_row _ W.heap.size k _ t (0, 0) (heap_alloc_new W _)]
    simp
  exact ⟨(key _).trans c0, (key _).trans c1⟩
theorem Toks.alloc {W : World} {A : Option Addr} {n : Nat} {l : List Tk} (h : Toks W W.heap.size A n l) (o : Obj) : Toks (W.alloc o) (W.alloc o).heap.size A n l := h.later ((Below.refl _ _).alloc (Nat.le_refl _) o)
end Go.Proofs.YtepnfocgdcbadaaGreatDoor

/- May a token be. -/
namespace Go.Proofs.YtepnfocgdcbadaaGreatDoor
open Go.RowKit Go.Lib

/-- May a token be? -/
def tmayB (k : Int) (s : ByteArray) : Bool :=
  if k = 3 then mayB 2 0 s else if k = 1 then kmay letB parB 16 s.data.toList else if k = 2 then kmay digB digB 19 s.data.toList else if k = 4 then kmay sigB nonB 1 s.data.toList else false
theorem vmay_any (k i : Int) (s : ByteArray) (w : World) :
    Calls Tryz.prog 51 #[.agg #[.int .i64 k, .int .i64 i, .string s]] w fun e w' => e = .returned (.bool (mayB k i s)) ∧ Below w.heap.size w w' := by
  cases h : mayB k i s with
  | true => exact may_t k i s w h
  | false => exact may_f k i s w h
set_option maxRecDepth 100000 in
theorem meant_any (k : Int) (s : ByteArray) (w : World) :
    Calls Tryz.prog 118 #[.agg #[.int .i64 k, .string s]] w fun e w' => e = .returned (.agg #[.int .i64 2, .int .i64 0, .string s]) ∧ Below w.heap.size w w' := by
  go_enter Tryz.func118, Tryz.ntmps118
  go_wp2
  refine bodyPost_ret (v := .agg #[.int .i64 2, .int .i64 0, .string s]) ?_ rfl ⟨rfl, ?_⟩
  · (simp [results, Tryz.results118, go_sem, *]; done)
  repeat (first | (with_reducible exact Below.refl _ _) | ((with_reducible refine cSet1 ?_ ?_ _ _); (· ((try simp) <;> omega))) | (with_reducible refine Below.drew ?_) | ((with_reducible refine cAlloc ?_ ?_ _); (· ((try simp) <;> omega))) | ((with_reducible refine cOn (by assumption) ?_ ?_); (· ((try simp) <;> omega))))

set_option maxRecDepth 100000 in
set_option maxHeartbeats 800000 in
theorem tmay_3 (s : ByteArray) (w : World) :
    Calls Tryz.prog 105 #[.agg #[.int .i64 3, .string s]] w fun e w' => e = .returned (.bool (mayB 2 0 s)) ∧ Below w.heap.size w w' := by
  go_enter Tryz.func105, Tryz.ntmps105
  go_wp2_with (first
    | (go_at_call 118; refine (meant_any _ _ _).mono ?_; rintro e w1 ⟨rfl, hb1⟩; have hc1 := (bcell hb1).1; have hf1 := (bcell hb1).2; have hy1 := hb1.size; (try simp at hy1); have hz1_0 : w.heap.size < w1.heap.size := (by omega))
    | (go_at_call 51; refine (vmay_any _ _ _ _).mono ?_; rintro e w2 ⟨rfl, hb2⟩; have hc2 := (bcell hb2).1; have hf2 := (bcell hb2).2; have hy2 := hb2.size; (try simp at hy2); have hz2_0 : w.heap.size < w2.heap.size := (by omega)))
  go_ret
  refine ⟨rfl, ?_⟩
  repeat (first | (with_reducible exact Below.refl _ _) | ((with_reducible refine cSet3 ?_ ?_ _ _ _); (· ((try simp) <;> omega))) | (with_reducible refine Below.drew ?_) | ((with_reducible refine cAlloc ?_ ?_ _); (· ((try simp) <;> omega))) | ((with_reducible refine cOn (by assumption) ?_ ?_); (· ((try simp) <;> omega))))

/-- The token's box, while the kinds are gone through. -/
structure TB (w : World) (k : Int) (s : ByteArray) (W : World) : Prop where
  below : Below w.heap.size w W
  c0 : W.cell? ⟨w.heap.size, 0, none⟩ = some (.int .i64 k)
  c1 : W.cell? ⟨w.heap.size, 1, none⟩ = some (.string s)
theorem TB.lt {w W : World} {k : Int} {s : ByteArray} (h : TB w k s W) : w.heap.size < W.heap.size := World.block_lt_of_cell? _ _ h.c0
theorem TB.later {w W W' : World} {k : Int} {s : ByteArray} (h : TB w k s W) (hb : Below W.heap.size W W') : TB w k s W' :=
  ⟨h.below.trans (hb.mono h.below.size), (hb.cell (p := ⟨_, _, none⟩) h.lt).trans h.c0, (hb.cell (p := ⟨_, _, none⟩) h.lt).trans h.c1⟩
theorem TB.alloc {w W : World} {k : Int} {s : ByteArray} (h : TB w k s W) (o : Obj) : TB w k s (W.alloc o) := h.later ((Below.refl _ _).alloc (Nat.le_refl _) o)
theorem TB.start (w : World) (k : Int) (s : ByteArray) (t : TypeId) : TB w k s (w.alloc (.cells #[.int .i64 k, .string s] t)) :=
  ⟨(Below.refl _ _).alloc (Nat.le_refl _) _, by simp [go_sem], by simp [go_sem]⟩

set_option maxRecDepth 100000 in
set_option maxHeartbeats 1600000 in
theorem tmay_k0 (s : ByteArray) (w : World) (hs : s.size ≤ 100000) :
    Calls Tryz.prog 105 #[.agg #[.int .i64 1, .string s]] w fun e w' => e = .returned (.bool (kmay letB parB 16 s.data.toList)) ∧ Below w.heap.size w w' := by
  go_enter Tryz.func105, Tryz.ntmps105
  go_wp2_with (go_at_call 119; refine (kinds_any _).mono ?_; rintro e w1 ⟨rfl, hb1⟩; have HW0 := Lib.hid ((TB.start w 1 s _).later hb1); clear hb1)
  go_loopw [12] (fun i wr => ∃ n : Nat, n ≤ 0 ∧ i = .int .i64 n ∧ TB w 1 s wr) (fun i _ => 3 - (intOf i).toNat)
  case atStart => exact ⟨0, by omega, rfl, HW0.out⟩
  case round =>
    obtain ⟨n, hn, rfl, hW⟩ := hrel
    have HW := Lib.hid hW
    clear hW HW0
    obtain ⟨wo, hwo⟩ : ∃ wo : World, wo = wr := ⟨_, rfl⟩
    rw [← hwo] at HW ⊢
    clear hwo
    by_cases hn0 : n = 0
    · subst hn0
      have r0 := HW.out.c0
      have r1 := HW.out.c1
      have rl := HW.out.lt
      have ix := kix0
      have rn : ¬ w.heap.size = wo.heap.size := by omega
      go_wp2_with (go_at_call 76; refine (kmay_any 1 16 _ _ letB parB cls_letter cls_inWord s _ hs (by omega)).mono ?_; rintro e w2 ⟨rfl, hb2⟩)
      go_ret
      exact ⟨rfl, (HW.out.alloc _).below.trans (hb2.mono (HW.out.alloc _).below.size)⟩
    · skip
      omega

set_option maxRecDepth 100000 in
set_option maxHeartbeats 1600000 in
theorem tmay_k1 (s : ByteArray) (w : World) (hs : s.size ≤ 100000) :
    Calls Tryz.prog 105 #[.agg #[.int .i64 2, .string s]] w fun e w' => e = .returned (.bool (kmay digB digB 19 s.data.toList)) ∧ Below w.heap.size w w' := by
  go_enter Tryz.func105, Tryz.ntmps105
  go_wp2_with (go_at_call 119; refine (kinds_any _).mono ?_; rintro e w1 ⟨rfl, hb1⟩; have HW0 := Lib.hid ((TB.start w 2 s _).later hb1); clear hb1)
  go_loopw [12] (fun i wr => ∃ n : Nat, n ≤ 1 ∧ i = .int .i64 n ∧ TB w 2 s wr) (fun i _ => 3 - (intOf i).toNat)
  case atStart => exact ⟨0, by omega, rfl, HW0.out⟩
  case round =>
    obtain ⟨n, hn, rfl, hW⟩ := hrel
    have HW := Lib.hid hW
    clear hW HW0
    obtain ⟨wo, hwo⟩ : ∃ wo : World, wo = wr := ⟨_, rfl⟩
    rw [← hwo] at HW ⊢
    clear hwo
    by_cases hn0 : n = 0
    · subst hn0
      have r0 := HW.out.c0
      have r1 := HW.out.c1
      have rl := HW.out.lt
      have ix := kix0
      have rn : ¬ w.heap.size = wo.heap.size := by omega
      go_wp2
      go_roundw
      case rel => exact ⟨0 + 1, by omega, by go_num, HW.out.alloc _⟩
      case measure => simp [intOf]; try omega
    · skip
      by_cases hn1 : n = 1
      · subst hn1
        have r0 := HW.out.c0
        have r1 := HW.out.c1
        have rl := HW.out.lt
        have ix := kix1
        have rn : ¬ w.heap.size = wo.heap.size := by omega
        go_wp2_with (go_at_call 76; refine (kmay_any 2 19 _ _ digB digB cls_digit cls_digit s _ hs (by omega)).mono ?_; rintro e w2 ⟨rfl, hb2⟩)
        go_ret
        exact ⟨rfl, (HW.out.alloc _).below.trans (hb2.mono (HW.out.alloc _).below.size)⟩
      · skip
        omega

set_option maxRecDepth 100000 in
set_option maxHeartbeats 1600000 in
theorem tmay_k2 (s : ByteArray) (w : World) (hs : s.size ≤ 100000) :
    Calls Tryz.prog 105 #[.agg #[.int .i64 4, .string s]] w fun e w' => e = .returned (.bool (kmay sigB nonB 1 s.data.toList)) ∧ Below w.heap.size w w' := by
  go_enter Tryz.func105, Tryz.ntmps105
  go_wp2_with (go_at_call 119; refine (kinds_any _).mono ?_; rintro e w1 ⟨rfl, hb1⟩; have HW0 := Lib.hid ((TB.start w 4 s _).later hb1); clear hb1)
  go_loopw [12] (fun i wr => ∃ n : Nat, n ≤ 2 ∧ i = .int .i64 n ∧ TB w 4 s wr) (fun i _ => 3 - (intOf i).toNat)
  case atStart => exact ⟨0, by omega, rfl, HW0.out⟩
  case round =>
    obtain ⟨n, hn, rfl, hW⟩ := hrel
    have HW := Lib.hid hW
    clear hW HW0
    obtain ⟨wo, hwo⟩ : ∃ wo : World, wo = wr := ⟨_, rfl⟩
    rw [← hwo] at HW ⊢
    clear hwo
    by_cases hn0 : n = 0
    · subst hn0
      have r0 := HW.out.c0
      have r1 := HW.out.c1
      have rl := HW.out.lt
      have ix := kix0
      have rn : ¬ w.heap.size = wo.heap.size := by omega
      go_wp2
      go_roundw
      case rel => exact ⟨0 + 1, by omega, by go_num, HW.out.alloc _⟩
      case measure => simp [intOf]; try omega
    · skip
      by_cases hn1 : n = 1
      · subst hn1
        have r0 := HW.out.c0
        have r1 := HW.out.c1
        have rl := HW.out.lt
        have ix := kix1
        have rn : ¬ w.heap.size = wo.heap.size := by omega
        go_wp2
        go_roundw
        case rel => exact ⟨1 + 1, by omega, by go_num, HW.out.alloc _⟩
        case measure => simp [intOf]; try omega
      · skip
        by_cases hn2 : n = 2
        · subst hn2
          have r0 := HW.out.c0
          have r1 := HW.out.c1
          have rl := HW.out.lt
          have ix := kix2
          have rn : ¬ w.heap.size = wo.heap.size := by omega
          go_wp2_with (go_at_call 76; refine (kmay_any 4 1 _ _ sigB nonB cls_isSign cls_none s _ hs (by omega)).mono ?_; rintro e w2 ⟨rfl, hb2⟩)
          go_ret
          exact ⟨rfl, (HW.out.alloc _).below.trans (hb2.mono (HW.out.alloc _).below.size)⟩
        · skip
          omega

set_option maxRecDepth 100000 in
set_option maxHeartbeats 1600000 in
theorem tmay_k3 (k : Int) (s : ByteArray) (w : World) (hs : s.size ≤ 100000) (hk0 : ¬ k = 1) (hk1 : ¬ k = 2) (hk2 : ¬ k = 4) (hk3 : ¬ k = 3) :
    Calls Tryz.prog 105 #[.agg #[.int .i64 k, .string s]] w fun e w' => e = .returned (.bool false) ∧ Below w.heap.size w w' := by
  have n0 : ¬ (1 : Int) = k := fun h => hk0 h.symm
  have n1 : ¬ (2 : Int) = k := fun h => hk1 h.symm
  have n2 : ¬ (4 : Int) = k := fun h => hk2 h.symm
  go_enter Tryz.func105, Tryz.ntmps105
  go_wp2_with (go_at_call 119; refine (kinds_any _).mono ?_; rintro e w1 ⟨rfl, hb1⟩; have HW0 := Lib.hid ((TB.start w k s _).later hb1); clear hb1)
  go_loopw [12] (fun i wr => ∃ n : Nat, n ≤ 3 ∧ i = .int .i64 n ∧ TB w k s wr) (fun i _ => 3 - (intOf i).toNat)
  case atStart => exact ⟨0, by omega, rfl, HW0.out⟩
  case round =>
    obtain ⟨n, hn, rfl, hW⟩ := hrel
    have HW := Lib.hid hW
    clear hW HW0
    obtain ⟨wo, hwo⟩ : ∃ wo : World, wo = wr := ⟨_, rfl⟩
    rw [← hwo] at HW ⊢
    clear hwo
    by_cases hn0 : n = 0
    · subst hn0
      have r0 := HW.out.c0
      have r1 := HW.out.c1
      have rl := HW.out.lt
      have ix := kix0
      have rn : ¬ w.heap.size = wo.heap.size := by omega
      go_wp2
      go_roundw
      case rel => exact ⟨0 + 1, by omega, by go_num, HW.out.alloc _⟩
      case measure => simp [intOf]; try omega
    · skip
      by_cases hn1 : n = 1
      · subst hn1
        have r0 := HW.out.c0
        have r1 := HW.out.c1
        have rl := HW.out.lt
        have ix := kix1
        have rn : ¬ w.heap.size = wo.heap.size := by omega
        go_wp2
        go_roundw
        case rel => exact ⟨1 + 1, by omega, by go_num, HW.out.alloc _⟩
        case measure => simp [intOf]; try omega
      · skip
        by_cases hn2 : n = 2
        · subst hn2
          have r0 := HW.out.c0
          have r1 := HW.out.c1
          have rl := HW.out.lt
          have ix := kix2
          have rn : ¬ w.heap.size = wo.heap.size := by omega
          go_wp2
          go_roundw
          case rel => exact ⟨2 + 1, by omega, by go_num, HW.out.alloc _⟩
          case measure => simp [intOf]; try omega
        · skip
          obtain rfl : n = 3 := by omega
          go_wp2
          go_ret
          exact ⟨rfl, HW.out.below⟩

theorem tmay_any (k : Int) (s : ByteArray) (w : World) (hs : s.size ≤ 100000) :
    Calls Tryz.prog 105 #[.agg #[.int .i64 k, .string s]] w fun e w' => e = .returned (.bool (tmayB k s)) ∧ Below w.heap.size w w' := by
  unfold tmayB
  by_cases h3 : k = 3
  · rw [if_pos h3]; subst h3; exact tmay_3 s w
  · rw [if_neg h3]
    by_cases h1 : k = 1
    · rw [if_pos h1]; subst h1; exact tmay_k0 s w hs
    · rw [if_neg h1]
      by_cases h2 : k = 2
      · rw [if_pos h2]; subst h2; exact tmay_k1 s w hs
      · rw [if_neg h2]
        by_cases h4 : k = 4
        · rw [if_pos h4]; subst h4; exact tmay_k2 s w hs
        · rw [if_neg h4]; exact tmay_k3 k s w hs h1 h2 h4 h3
end Go.Proofs.YtepnfocgdcbadaaGreatDoor
