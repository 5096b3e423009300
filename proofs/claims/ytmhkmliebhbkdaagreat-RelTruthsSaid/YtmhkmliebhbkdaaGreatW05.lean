import Derived.Test.YtmhkmliebhbkdaaGreatW04
import Derived.Deep.LoopGhost
import Derived.WideMake
import Derived.Test.YtmhkmliebhbkdaaGreatW03

/- How deep an expression is, and how many nodes it has: within, May. -/
namespace Go.Proofs.YtmhkmliebhbkdaaGreat
open Go.RowKit Go.Lib

def fmT (t : Ex) : Bool := fmB t.op t.x.k t.x.i t.x.s t.s t.l.length
def partsF (f : Ex → Int → Bool × Int) : List Ex → Int → Bool × Int
  | [], left => (true, left)
  | x :: r, left => if (f x left).1 = true then partsF f r (f x left).2 else (false, (f x left).2)
def withinF : Nat → Ex → Int → Bool × Int
  | 0, _, left => (false, left - 1)
  | d + 1, t, left => if left - 1 < 0 then (false, left - 1) else if fmT t = true then partsF (withinF d) t.l (left - 1) else (false, left - 1)
def mayT (t : Ex) : Bool := (withinF 12 t 60).1

def Bd (m : Int) (r : Bool × Int) : Prop := r.2 ≤ m ∧ -1 ≤ r.2 ∧ (r.1 = true → 0 ≤ r.2)
theorem parts_bd {f : Ex → Int → Bool × Int} (hf : ∀ x m, 0 ≤ m → Bd m (f x m)) : ∀ (l : List Ex) (m : Int), 0 ≤ m → Bd m (partsF f l m)
  | [], m, h => ⟨Int.le_refl _, by show -1 ≤ m; omega, fun _ => h⟩
  | x :: r, m, h => by
    obtain ⟨h1, h2, h3⟩ := hf x m h
    unfold partsF
    by_cases hb : (f x m).1 = true
    · rw [if_pos hb]
      obtain ⟨k1, k2, k3⟩ := parts_bd hf r (f x m).2 (h3 hb)
      exact ⟨by omega, k2, k3⟩
    · rw [if_neg hb]
      exact ⟨h1, h2, fun e => by cases e⟩
theorem within_bd : ∀ (d : Nat) (t : Ex) (m : Int), 0 ≤ m → Bd m (withinF d t m)
  | 0, t, m, h => by
    unfold withinF
    exact ⟨by show m - 1 ≤ m; omega, by show -1 ≤ m - 1; omega, fun e => by cases e⟩
  | d + 1, t, m, h => by
    unfold withinF
    by_cases h0 : m - 1 < 0
    · rw [if_pos h0]
      exact ⟨by show m - 1 ≤ m; omega, by show -1 ≤ m - 1; omega, fun e => by cases e⟩
    · rw [if_neg h0]
      by_cases hf : fmT t = true
      · rw [if_pos hf]
        obtain ⟨k1, k2, k3⟩ := parts_bd (within_bd d) t.l (m - 1) (by omega)
        exact ⟨by omega, k2, k3⟩
      · rw [if_neg hf]
        exact ⟨by show m - 1 ≤ m; omega, by show -1 ≤ m - 1; omega, fun e => by cases e⟩

/-- Block g holds the number m, and is one's own. -/
def Cnt (W : World) (g : Nat) (m : Int) : Prop := W.heap[g]? = some (.cells #[.int .i64 m] 3 (0, 0))
theorem Cnt.lt {W : World} {g : Nat} {m : Int} (h : Cnt W g m) : g < W.heap.size := (Array.getElem?_eq_some_iff.1 h).1
theorem Cnt.c0 {W : World} {g : Nat} {m : Int} (h : Cnt W g m) : W.cell? ⟨g, 0, none⟩ = some (.int .i64 m) := by rw [Lib.cell_of_heap h]; rfl
theorem Cnt.fz {W : World} {g : Nat} {m : Int} (h : Cnt W g m) (o : Nat) : W.frozen? ⟨g, o, none⟩ = false := Lib.frozen_of_heap h o
theorem Cnt.new {W : World} {n : Nat} (h : W.heap.size = n) (m : Int) : Cnt (W.alloc (.cells #[.int .i64 m] 3)) n m := by
  subst h
  show (W.heap.push _)[W.heap.size]? = _
  simp
theorem Cnt.keep {W W' : World} {g : Nat} {m : Int} {B : Nat} (h : Cnt W g m) (hb : Below B W W') (hB : g < B) : Cnt W' g m := (hb.block g hB).trans h
theorem Cnt.put {W : World} {g : Nat} {m : Int} (h : Cnt W g m) (k : Int) : Cnt (W.setCell ⟨g, 0, none⟩ (.int .i64 k)) g k := by
  unfold Cnt at h ⊢
  simp [World.setCell, Array.getElem?_modify, h]
theorem grow_set (W : World) (g : Nat) (o : Nat) (v : Value) : W.grownBy (W.setCell ⟨g, o, none⟩ v) (some g) :=
  ⟨rfl, rfl, rfl, by simp [World.setCell], fun k _ hk => Below.heap_setCell _ _ _ _ (fun e => hk (by rw [e]))⟩
theorem grow_trans {a b c : World} {row : Option Nat} (h : a.grownBy b row) (k : b.grownBy c row) : a.grownBy c row :=
  ⟨k.os.trans h.os, k.tape.trans h.tape, k.output.trans h.output, Nat.le_trans h.size k.size, fun i hi hr => (k.block i (Nat.lt_of_lt_of_le hi h.size) hr).trans (h.block i hi hr)⟩
theorem grow_refl (W : World) (row : Option Nat) : W.grownBy W row := ⟨rfl, rfl, rfl, Nat.le_refl _, fun _ _ _ => rfl⟩
theorem grow_below {W W' : World} (h : Below W.heap.size W W') (row : Option Nat) : W.grownBy W' row := ⟨h.os, h.tape, h.output, h.size, fun k hk _ => h.block k hk⟩
theorem grow_alloc (W : World) (o : Obj) (row : Option Nat) : W.grownBy (W.alloc o) row := grow_below ((Below.refl _ _).alloc (Nat.le_refl _) o) row
theorem below_grow {B : Nat} {a b c : World} {g : Nat} (h : Below B a b) (k : b.grownBy c (some g)) (hg : B ≤ g) (hB : B ≤ b.heap.size) : Below B a c :=
  ⟨k.os.trans h.os, k.tape.trans h.tape, k.output.trans h.output, Nat.le_trans h.size k.size, fun i hi => (k.block i (Nat.lt_of_lt_of_le hi hB) (fun e => by injection e with e; omega)).trans (h.block i hi)⟩

def Wit (w : World) (lb : Nat) (r : Bool × Int) (e : Ending) (w' : World) : Prop := e = .returned (.bool r.1) ∧ Cnt w' lb r.2 ∧ w.grownBy w' (some lb)
def EVt (t : Ex) (u : Value) : Value := .agg #[.string t.op, .int .i64 t.x.k, .int .i64 t.x.i, .string t.x.s, .string t.s, u]

set_option maxRecDepth 100000 in
set_option maxHeartbeats 4000000 in
theorem within_0 (d : Int) (hd : d = 0 ∨ (0 < d ∧ d ≤ 100)) (op : ByteArray) (k i : Int) (vs s : ByteArray) (A : Option Addr) (n cap : Nat) (lb : Nat) (m : Int) (w : World) (hm : 0 ≤ m) (hm' : m ≤ 1000) (hc : Cnt w lb m) (h0 : d = 0 ∨ m - 1 < 0) :
    Calls Tryz.prog 103 #[.agg #[.string op, .int .i64 k, .int .i64 i, .string vs, .string s, .slice A n cap], .int .i64 d, .pointer (some ⟨lb, 0, none⟩)] w (Wit w lb (false, m - 1)) := by
  have HC := Lib.hid hc
  clear hc
  have hlt := HC.out.lt
  have e0 := HC.out.c0
  have ef := HC.out.fz 0
  have hne : ¬ w.heap.size = lb := by omega
  have hne' : ¬ lb = w.heap.size := by omega
  by_cases hz : d = 0
  · subst hz
    clear hd h0
    go_enter Tryz.func103, Tryz.ntmps103
    go_wp2_with (fail)
    go_ret
    exact ⟨rfl, (HC.out.put _).keep ((Below.refl _ _).alloc (Nat.le_refl _) _) (by simpa [World.setCell] using hlt), grow_trans (grow_set _ _ _ _) (grow_alloc _ _ _)⟩
  · have h1 : decide (m - 1 < 0) = true := decide_eq_true (by omega)
    have h2 : (d == 0) = false := beq_eq_false_iff_ne.2 hz
    have h3 : m - 1 < 0 := by omega
    clear hd h0
    go_enter Tryz.func103, Tryz.ntmps103
    go_wp2_with (fail)
    go_ret
    exact ⟨rfl, (HC.out.put _).keep ((Below.refl _ _).alloc (Nat.le_refl _) _) (by simpa [World.setCell] using hlt), grow_trans (grow_set _ _ _ _) (grow_alloc _ _ _)⟩

/-- The world of a node that goes on: its count is written, its box is there. -/
structure Node (w : World) (lb : Nat) (t : Ex) (u : Value) (m : Int) (W : World) : Prop where
  grown : w.grownBy W (some lb)
  cnt : Cnt W lb m
  box : W.heap[w.heap.size]? = some (.cells #[.string t.op, .int .i64 t.x.k, .int .i64 t.x.i, .string t.x.s, .string t.s, u] 29 (0, 0))
theorem box_cells {W : World} {b : Nat} {t : Ex} {u : Value} (h : W.heap[b]? = some (.cells #[.string t.op, .int .i64 t.x.k, .int .i64 t.x.i, .string t.x.s, .string t.s, u] 29 (0, 0))) : ExC W ⟨b, 0, none⟩ t u := by
  refine ⟨?_, ?_, ?_, ?_, ?_, ?_⟩ <;> · rw [Lib.cell_of_heap h]; rfl

set_option maxRecDepth 100000 in
set_option maxHeartbeats 4000000 in
theorem within_f (d : Nat) (hd : d ≤ 100) (t : Ex) (u : Value) (P : Nat → Prop) (N : Nat) (lb : Nat) (m : Int) (w : World) (ht : Tr w P N t u) (hm : 1 ≤ m) (hm' : m ≤ 1000) (hc : Cnt w lb m) (hf : fmT t = false) :
    Calls Tryz.prog 103 #[EVt t u, .int .i64 ((d : Int) + 1), .pointer (some ⟨lb, 0, none⟩)] w (Wit w lb (false, m - 1)) := by
  have HC := Lib.hid hc
  have hs := ht.1
  obtain ⟨A, cap, rfl, hn⟩ := ht.form
  have HF := Lib.hid hf
  clear hc ht hf
  cases t with
  | mk op x s l =>
  obtain ⟨k, i, vs⟩ := x
  unfold EVt
  simp only [Ex.op, Ex.x, Ex.s, Ex.l] at hs hn ⊢
  have hlt := HC.out.lt
  have e0 := HC.out.c0
  have ef := HC.out.fz 0
  have hne : ¬ w.heap.size = lb := by omega
  have hne' : ¬ lb = w.heap.size := by omega
  have h1 : decide (m - 1 < 0) = false := decide_eq_false (by omega)
  have h2 : ((d : Int) + 1 == 0) = false := beq_eq_false_iff_ne.2 (by omega)
  go_enter Tryz.func103, Tryz.ntmps103
  go_wp2_with (go_at_call 139; refine (formed_any _ _ _ _ _ _ _ _ _ hn hs).mono ?_; rintro e w1 ⟨rfl, hb1⟩; rw [show fmB op k i vs s l.length = false from HF.out])
  go_ret
  exact ⟨rfl, ((HC.out.put _).keep ((Below.refl _ _).alloc (Nat.le_refl _) _) (by simpa [World.setCell] using hlt)).keep hb1 (by simp [World.setCell]; omega), grow_trans (grow_trans (grow_set _ _ _ _) (grow_alloc _ _ _)) (grow_below hb1 _)⟩

theorem Sl.at_ {w : World} {P : Nat → Prop} {N : Nat} {l : List Ex} {A : Option Addr} {c n : Nat} (h : Sl w P N l (.slice A n c)) {j : Nat} (hj : j < l.length) : ∃ a u M, A = some a ∧ P a.block ∧ ExC w (a.add (j * 6)) l[j] u ∧ Tr w P M l[j] u ∧ M < N := by
  cases N with
  | zero => obtain ⟨rfl, _⟩ := h; simp at hj
  | succ M =>
    obtain ⟨A', cap, e, hl, hh⟩ := h
    obtain ⟨a, u, e1, hp, hc, hs, hr⟩ := hh j hj
    injection e with e2 _ _
    exact ⟨a, u, M, e2.trans e1, hp, hc, ⟨hs, hr⟩, Nat.lt_succ_self _⟩

theorem parts_t {f : Ex → Int → Bool × Int} {l : List Ex} {j : Nat} (hj : j < l.length) {m : Int} (h : (f l[j] m).1 = true) : partsF f (l.drop j) m = partsF f (l.drop (j + 1)) (f l[j] m).2 := by
  rw [List.drop_eq_getElem_cons hj]
  show (if (f l[j] m).1 = true then _ else _) = _
  rw [if_pos h]
theorem parts_f {f : Ex → Int → Bool × Int} {l : List Ex} {j : Nat} (hj : j < l.length) {m : Int} (h : (f l[j] m).1 = false) : partsF f (l.drop j) m = (false, (f l[j] m).2) := by
  rw [List.drop_eq_getElem_cons hj]
  show (if (f l[j] m).1 = true then _ else _) = _
  rw [if_neg (by rw [h]; decide)]

set_option maxRecDepth 100000 in
set_option maxHeartbeats 8000000 in
theorem within_t (d : Nat) (hd : d ≤ 100) (t : Ex) (u : Value) (P : Nat → Prop) (N : Nat) (lb : Nat) (hP : ¬ P lb) (m : Int) (w : World) (ht : Tr w P N t u) (hm : 1 ≤ m) (hm' : m ≤ 1000) (hc : Cnt w lb m) (hf : fmT t = true)
    (hrec : ∀ (t : Ex) (u : Value) (M : Nat) (m : Int) (w : World), Tr w P M t u → 0 ≤ m → m ≤ 1000 → Cnt w lb m → Calls Tryz.prog 103 #[EVt t u, .int .i64 d, .pointer (some ⟨lb, 0, none⟩)] w (Wit w lb (withinF d t m))) :
    Calls Tryz.prog 103 #[EVt t u, .int .i64 ((d : Int) + 1), .pointer (some ⟨lb, 0, none⟩)] w (Wit w lb (partsF (withinF d) t.l (m - 1))) := by
  have HR := Lib.hid hrec
  have HC := Lib.hid hc
  have hs := ht.1
  have HT := Lib.hid ht
  obtain ⟨A, cap, rfl, hn⟩ := ht.form
  have HF := Lib.hid hf
  clear hc ht hf hrec
  cases t with
  | mk op x s l =>
  obtain ⟨k, i, vs⟩ := x
  unfold EVt
  simp only [Ex.op, Ex.x, Ex.s, Ex.l] at hs hn ⊢
  have hlt := HC.out.lt
  have e0 := HC.out.c0
  have ef := HC.out.fz 0
  have hne : ¬ w.heap.size = lb := by omega
  have hne' : ¬ lb = w.heap.size := by omega
  have h1 : decide (m - 1 < 0) = false := decide_eq_false (by omega)
  have h2 : ((d : Int) + 1 == 0) = false := beq_eq_false_iff_ne.2 (by omega)
  obtain ⟨n, HN⟩ : ∃ n, Hid (l.length = n) := ⟨_, Lib.hid rfl⟩
  have HS : Hid (Sl w P N l (.slice A n cap)) := HN.out ▸ HT.out.2
  rw [HN.out] at hn ⊢
  unfold maxLen at hn
  go_enter Tryz.func103, Tryz.ntmps103
  go_wp2_with (go_at_call 139; refine (formed_any _ _ _ _ _ _ _ _ _ (by unfold maxLen; omega) hs).mono ?_; rintro e w1 ⟨rfl, hb1⟩; rw [show fmB op k i vs s n = true from HN.out ▸ HF.out]; have hc1 := (bcell hb1).1; have HB1 := Lib.hid hb1; have hy1 := hb1.size; (try simp [World.setCell] at hy1); have hz1 : w.heap.size < w1.heap.size := (by omega); clear hb1)
  have HW1 : Hid (w.grownBy w1 (some lb) ∧ Cnt w1 lb (m - 1)) :=
    ⟨grow_trans (grow_trans (grow_set _ _ _ _) (grow_alloc _ _ _)) (grow_below HB1.out _), ((HC.out.put _).keep ((Below.refl _ _).alloc (Nat.le_refl _) _) (by simpa [World.setCell] using hlt)).keep HB1.out (by simp [World.setCell]; omega)⟩
  clear HB1 hc1
  go_loopw [30] (fun iv wr => ∃ (j : Nat) (q : Int), iv = .int .i64 j ∧ j ≤ n ∧ 0 ≤ q ∧ q ≤ 1000 ∧ w.grownBy wr (some lb) ∧ Cnt wr lb q ∧ Hid (partsF (withinF d) l (m - 1) = partsF (withinF d) (l.drop j) q)) (fun iv _ => n - (intOf iv).toNat)
  case atStart => exact ⟨0, m - 1, rfl, by omega, by omega, by omega, HW1.out.1, HW1.out.2, rfl⟩
  case round =>
    obtain ⟨j, q, rfl, hj, hq, hq', hg, hcn, HP⟩ := hrel
    have HG := Lib.hid (And.intro hg hcn)
    by_cases hlt1 : j < n
    · have hjl : j < l.length := by rw [HN.out]; exact hlt1
      obtain ⟨a, u', M, rfl, hp, hE, hTr, _⟩ := HS.out.at_ hjl
      obtain ⟨A', cap', hu, _⟩ := hTr.form
      obtain ⟨n', hn'⟩ : ∃ n', n' = l[j].l.length := ⟨_, rfl⟩
      rw [← hn'] at hu
      clear hn'
      subst hu
      have hal : a.block < w.heap.size := by have := hE.lt; rwa [add_block] at this
      have hanl : a.block ≠ lb := fun e => hP (e ▸ hp)
      have hblk : wr.heap[a.block]? = w.heap[a.block]? := hg.block _ hal (fun e => hanl (by injection e))
      have hE' := hE.keep (W' := wr) (by rw [add_block]; exact hblk)
      have HT' := Lib.hid (hTr.grown hg hP)
      have HX := Lib.hid (parts_t (f := withinF d) hjl (m := q))
      have HY := Lib.hid (parts_f (f := withinF d) hjl (m := q))
      have HB := Lib.hid (within_bd d l[j] q hq)
      have c0 := hE'.c0
      have c1 := hE'.c1
      have c2 := hE'.c2
      have c3 := hE'.c3
      have c4 := hE'.c4
      have c5 := hE'.c5
      have hwl := hcn.lt
      clear hE hE' hTr hblk hg hcn
      generalize l[j] = y at c0 c1 c2 c3 c4 c5 HT' HX HY HB
      cases hb : (withinF d y q).1 with
      | true =>
        have HBT := Lib.hid hb
        clear hb
        go_wp2_with (go_at_call 103; refine (HR.out y _ M q _ (HT'.out.below ((Below.refl _ _).alloc (Nat.le_refl _) _)) hq hq' (HG.out.2.keep ((Below.refl _ _).alloc (Nat.le_refl _) _) hwl)).mono ?_; rintro e w2 ⟨rfl, hcn2, hg2⟩; rw [HBT.out]; have HG2 := Lib.hid (And.intro hcn2 hg2); clear hcn2 hg2)
        go_roundw
        case rel => exact ⟨j + 1, _, by go_num, by omega, HB.out.2.2 HBT.out, by have := HB.out.1; omega, grow_trans (grow_trans HG.out.1 (grow_alloc _ _ _)) HG2.out.2, HG2.out.1, HP.out.trans (HX.out HBT.out)⟩
        case measure => simp [intOf]; omega
      | false =>
        have HBT := Lib.hid hb
        clear hb
        go_wp2_with (go_at_call 103; refine (HR.out y _ M q _ (HT'.out.below ((Below.refl _ _).alloc (Nat.le_refl _) _)) hq hq' (HG.out.2.keep ((Below.refl _ _).alloc (Nat.le_refl _) _) hwl)).mono ?_; rintro e w2 ⟨rfl, hcn2, hg2⟩; rw [HBT.out]; have HG2 := Lib.hid (And.intro hcn2 hg2); clear hcn2 hg2)
        go_ret
        unfold Wit
        rw [HP.out, HY.out HBT.out]
        exact ⟨rfl, HG2.out.1, grow_trans (grow_trans HG.out.1 (grow_alloc _ _ _)) HG2.out.2⟩
    · obtain rfl : j = n := by omega
      clear hg hcn
      go_wp2_with (fail)
      go_ret
      unfold Wit
      rw [HP.out, List.drop_eq_nil_of_le (by rw [HN.out]; exact Nat.le_refl _)]
      exact ⟨rfl, HG.out.2, HG.out.1⟩

theorem within_any (P : Nat → Prop) (lb : Nat) (hP : ¬ P lb) : ∀ (d : Nat), d ≤ 100 → ∀ (t : Ex) (u : Value) (N : Nat) (m : Int) (w : World), Tr w P N t u → 0 ≤ m → m ≤ 1000 → Cnt w lb m →
    Calls Tryz.prog 103 #[EVt t u, .int .i64 d, .pointer (some ⟨lb, 0, none⟩)] w (Wit w lb (withinF d t m))
  | 0, _, t, u, N, m, w, ht, hm, hm', hc => by
    obtain ⟨A, cap, rfl, _⟩ := ht.form
    exact within_0 0 (.inl rfl) _ _ _ _ _ _ _ _ lb m w hm hm' hc (.inl rfl)
  | d + 1, hd, t, u, N, m, w, ht, hm, hm', hc => by
    by_cases h1 : m - 1 < 0
    · obtain ⟨A, cap, rfl, _⟩ := ht.form
      have e : withinF (d + 1) t m = (false, m - 1) := by unfold withinF; rw [if_pos h1]
      rw [e]
      exact within_0 _ (.inr ⟨by omega, by omega⟩) _ _ _ _ _ _ _ _ lb m w hm hm' hc (.inr h1)
    · cases hf : fmT t with
      | true =>
        have e : withinF (d + 1) t m = partsF (withinF d) t.l (m - 1) := by unfold withinF; rw [if_neg h1, if_pos hf]
        rw [e]
        exact within_t d (by omega) t u P N lb hP m w ht (by omega) hm' hc hf (fun t u M m w h1 h2 h3 h4 => within_any P lb hP d (by omega) t u M m w h1 h2 h3 h4)
      | false =>
        have e : withinF (d + 1) t m = (false, m - 1) := by unfold withinF; rw [if_neg h1, if_neg (by rw [hf]; decide)]
        rw [e]
        exact within_f d (by omega) t u P N lb m w ht (by omega) hm' hc hf

set_option maxRecDepth 100000 in
set_option maxHeartbeats 4000000 in
theorem emay_any (P : Nat → Prop) (N : Nat) (t : Ex) (u : Value) (w : World) (ht : Tr w P N t u) :
    Calls Tryz.prog 65 #[EVt t u] w fun e w' => e = .returned (.bool (mayT t)) ∧ Below w.heap.size w w' := by
  have HT := Lib.hid ht
  obtain ⟨A, cap, rfl, hn⟩ := ht.form
  clear ht
  have HQ : Hid (Tr ((w.alloc (.cells #[.string t.op, .int .i64 t.x.k, .int .i64 t.x.i, .string t.x.s, .string t.s, .slice A t.l.length cap] 29)).alloc (.cells #[.int .i64 60] 3)) (fun b => b < w.heap.size) N t (.slice A t.l.length cap)) :=
    HT.out.keep (fun b _ hl => by rw [Below.heap_alloc _ _ _ (by simp; omega), Below.heap_alloc _ _ _ hl]) (fun b _ hl => hl)
  obtain ⟨n, HN⟩ : ∃ n, Hid (t.l.length = n) := ⟨_, Lib.hid rfl⟩
  have HW : Hid (∀ W, Tr W (fun b => b < w.heap.size) N t (.slice A t.l.length cap) → Cnt W (w.heap.size + 1) 60 → Calls Tryz.prog 103 #[EVt t (.slice A t.l.length cap), .int .i64 12, .pointer (some ⟨w.heap.size + 1, 0, none⟩)] W (Wit W (w.heap.size + 1) (withinF 12 t 60))) :=
    fun W h1 h2 => within_any (fun b => b < w.heap.size) _ (by omega) 12 (by omega) t _ N 60 W h1 (by omega) (by omega) h2
  unfold EVt at HW ⊢
  rw [HN.out] at hn HW ⊢
  rw [HN.out] at HQ
  unfold maxLen at hn
  go_enter Tryz.func65, Tryz.ntmps65
  go_wp2_with (go_at_call 103; refine (HW.out _ HQ.out (Cnt.new (by simp) _)).mono ?_; rintro e w1 ⟨rfl, _, hg⟩)
  go_ret
  exact ⟨rfl, below_grow (((Below.refl _ _).alloc (Nat.le_refl _) _).alloc (by simp) _) hg (by simp) (by simp; omega)⟩
end Go.Proofs.YtmhkmliebhbkdaaGreat

/- The map of functions that an expression's Ops are done by. -/
namespace Go.Proofs.YtmhkmliebhbkdaaGreat
open Go.RowKit Go.Lib

def pairOf (e : MapEntry) : Value × Value := (e.key, e.val)
/-- Block r is a map of these texts. -/
def MapAt (W : World) (r : Nat) (es : List (ByteArray × Value)) : Prop := ∃ (m : Array MapEntry) (c : Nat), W.heap[r]? = some (.map m c) ∧ m.toList.map pairOf = es.map fun y => (.string y.1, y.2)
theorem MapAt.lt {W : World} {r : Nat} {es : List (ByteArray × Value)} (h : MapAt W r es) : r < W.heap.size := by obtain ⟨m, c, h, _⟩ := h; exact (Array.getElem?_eq_some_iff.1 h).1
theorem MapAt.keep {W W' : World} {r : Nat} {es : List (ByteArray × Value)} (h : MapAt W r es) (hb : W'.heap[r]? = W.heap[r]?) : MapAt W' r es := by obtain ⟨m, c, h, k⟩ := h; exact ⟨m, c, hb.trans h, k⟩
theorem MapAt.below {W W' : World} {r : Nat} {es : List (ByteArray × Value)} (h : MapAt W r es) (hb : Below W.heap.size W W') : MapAt W' r es := h.keep (hb.block r h.lt)
theorem MapAt.made (w : World) : MapAt (w.alloc (.map #[] 0)) w.heap.size [] := ⟨#[], 0, by show (w.heap.push _)[w.heap.size]? = _; simp, rfl⟩

theorem find_new {s : ByteArray} : ∀ {l : List MapEntry} {es : List (ByteArray × Value)} (i : Nat), l.map pairOf = es.map (fun y => (.string y.1, y.2)) → (∀ y ∈ es, (s == y.1) = false) → Instr.findNow .string (.string s) l i = some none
  | [], _, _, _, _ => rfl
  | e :: l, [], _, h, _ => by simp at h
  | e :: l, y :: es, i, h, hn => by
    simp only [List.map_cons, List.cons.injEq] at h
    obtain ⟨h1, h2⟩ := h
    have hk : e.key = .string y.1 := congrArg Prod.fst h1
    have hs : (s == y.1) = false := hn y List.mem_cons_self
    show (match Instr.sameNow .string (.string s) e.key with | some true => _ | some false => _ | none => _) = _
    rw [hk]
    simp only [Instr.sameNow, hs]
    exact find_new (i + 1) h2 fun z hz => hn z (List.mem_cons_of_mem _ hz)
theorem find_is {s : ByteArray} {v : Value} : ∀ {l : List MapEntry} {es : List (ByteArray × Value)} (i : Nat), l.map pairOf = es.map (fun y => (.string y.1, y.2)) → es.find? (fun y => s == y.1) = some (s, v) → ∃ j, Instr.findNow .string (.string s) l i = some (some (j, v))
  | [], [], _, _, hf => by simp at hf
  | [], y :: es, _, h, _ => by simp at h
  | e :: l, [], _, h, _ => by simp at h
  | e :: l, y :: es, i, h, hf => by
    simp only [List.map_cons, List.cons.injEq] at h
    obtain ⟨h1, h2⟩ := h
    have hk : e.key = .string y.1 := congrArg Prod.fst h1
    have hv : e.val = y.2 := congrArg Prod.snd h1
    cases hs : s == y.1 with
    | true =>
      rw [List.find?_cons_of_pos (by exact hs)] at hf
      injection hf with hf
      refine ⟨i, ?_⟩
      show (match Instr.sameNow .string (.string s) e.key with | some true => _ | some false => _ | none => _) = _
      rw [hk]
      simp only [Instr.sameNow]
      rw [hs, hv, hf]
    | false =>
      rw [List.find?_cons_of_neg (by rw [hs]; decide)] at hf
      obtain ⟨j, hj⟩ := find_is (i + 1) h2 hf
      refine ⟨j, ?_⟩
      show (match Instr.sameNow .string (.string s) e.key with | some true => _ | some false => _ | none => _) = _
      rw [hk]
      simp only [Instr.sameNow, hs]
      exact hj

theorem MapAt.insert {P : Program} {w : World} {r : Nat} {es : List (ByteArray × Value)} (h : MapAt w r es) {t k e : TypeId} (ht : P.underlying t = some (.map k e)) (hk : P.underlying k = some .string) {s : ByteArray} (v : Value) (hn : ∀ y ∈ es, (s == y.1) = false) :
    ∃ w', (Instr.mapUpdate t (.map (some r)) (.string s) v).run P w = .ok () w' ∧ MapAt w' r (es ++ [(s, v)]) ∧ w.grownBy w' (some r) := by
  obtain ⟨m, c, hb, hm⟩ := h
  have hf := find_new (s := s) 0 hm hn
  have hc : (Instr.checkKey false 10000 k (.string s)).run P w = .ok () w := MapKept.run_checkKey (k := .string s) hk (by simp [MapKept.IsKey]) false 9999
  refine ⟨{ w with heap := w.heap.setIfInBounds r (.map (m.push { key := .string s, val := v, born := c }) (c + 1)) }, ?_, ⟨_, _, (MapKept.heap_set hb).1, ?_⟩, ⟨rfl, rfl, rfl, by simp, fun q hq hne => (MapKept.heap_set hb).2 q (fun e => hne (by rw [e]))⟩⟩
  · simp [Instr.mapUpdate, run_underlying ht, MapKept.run_getObj_map hb, hc, MapKept.run_findKey hk hf, MapKept.run_setObj_map _ hb, Result.andThen]
  · simp [hm, pairOf]

theorem MapAt.look {P : Program} {w : World} {r : Nat} {es : List (ByteArray × Value)} (h : MapAt w r es) {t k e : TypeId} (ht : P.underlying t = some (.map k e)) (hk : P.underlying k = some .string) {s : ByteArray} {v : Value} (hf : es.find? (fun y => s == y.1) = some (s, v)) :
    (Instr.lookup t (.map (some r)) (.string s) false).run P w = .ok v w := by
  obtain ⟨m, c, hb, hm⟩ := h
  obtain ⟨j, hj⟩ := find_is (s := s) 0 hm hf
  have hc : (Instr.checkKey m.isEmpty 10000 k (.string s)).run P w = .ok () w := MapKept.run_checkKey (k := .string s) hk (by simp [MapKept.IsKey]) m.isEmpty 9999
  simp [Instr.lookup, run_underlying ht, MapKept.run_getObj_map hb, hc, MapKept.run_findKey hk hj, Result.andThen]

/-- A map's new entry, at the operation. -/
theorem wpList_insert_new {P : Program} (w : World) {ops : Array Oper} {rest : List Oper} {o : Oper} {a : Act} {Q : Exit → Act → World → Prop}
    (hg : o.guard = none) (m x v : Operand) (t : TypeId) (hop : o.op = Op.insert t m x v) (k e : TypeId) (ht : P.underlying t = some (.map k e)) (hk : P.underlying k = some .string) (r : Nat) (es : List (ByteArray × Value))
    (hm : a.eval m = .map (some r)) (hat : MapAt w r es) (s : ByteArray) (val : Value) (hx : a.eval x = .string s) (hv : a.eval v = val) (hn : ∀ y ∈ es, (s == y.1) = false)
    (hK : ∀ w', MapAt w' r (es ++ [(s, val)]) → w.grownBy w' (some r) → wpList P ops Q rest (a.put o.dst undef) w') :
    wpList P ops Q (o :: rest) a w := by
  refine wpList_plain hg fun K' hK' => ?_
  obtain ⟨w', hrun, r1, r2⟩ := hat.insert ht hk val hn
  unfold Oper.wp
  simp [execOp, hop, hm, hx, hv, hrun, Result.andThen]
  exact hK' _ _ (hK w' r1 r2)

/-- A closure that does f with the values of a slice. -/
def Clo (W : World) (v : Value) (K f : Nat) : Prop := ∃ b, v = .func (.func K) #[] #[.pointer (some ⟨b, 0, none⟩)] ∧ W.cell? ⟨b, 0, none⟩ = some (.func (.func f) #[] #[])
theorem Clo.keep {W W' : World} {v : Value} {K f : Nat} (h : Clo W v K f) (hb : ∀ b, b < W.heap.size → (∃ u, W.cell? ⟨b, 0, none⟩ = some u ∧ u.oneCell' = true) → W'.heap[b]? = W.heap[b]?) : Clo W' v K f := by
  obtain ⟨b, e, hc⟩ := h
  exact ⟨b, e, (World.cell?_of_block (w := W) (a := ⟨b, 0, none⟩) (hb b (World.block_lt_of_cell? W _ hc) ⟨_, hc, rfl⟩)).trans hc⟩
theorem Clo.below {W W' : World} {v : Value} {K f : Nat} (h : Clo W v K f) (hb : Below W.heap.size W W') : Clo W' v K f := h.keep fun b hl _ => hb.block b hl
theorem Clo.map {W W' : World} {v : Value} {K f r : Nat} {es : List (ByteArray × Value)} (h : Clo W v K f) (hg : W.grownBy W' (some r)) (hr : MapAt W r es) : Clo W' v K f := h.keep fun b hl hu => hg.block b hl fun e => by
  injection e with e
  subst e
  obtain ⟨m, c, hb, _⟩ := hr
  obtain ⟨u, hc, _⟩ := hu
  simp [World.cell?, hb] at hc

set_option maxRecDepth 100000 in
set_option maxHeartbeats 1600000 in
theorem one_any (f : Nat) (w : World) :
    Calls Tryz.prog 106 #[.func (.func f) #[] #[]] w fun e w' => ∃ v, e = .returned v ∧ Clo w' v 143 f ∧ Below w.heap.size w w' := by
  go_enter Tryz.func106, Tryz.ntmps106
  go_wp2_with (fail)
  go_ret
  exact ⟨_, rfl, ⟨_, rfl, by simp [go_sem]⟩, (Below.refl _ _).alloc (Nat.le_refl _) _⟩

set_option maxRecDepth 100000 in
set_option maxHeartbeats 1600000 in
theorem two_any (f : Nat) (w : World) :
    Calls Tryz.prog 109 #[.func (.func f) #[] #[]] w fun e w' => ∃ v, e = .returned v ∧ Clo w' v 147 f ∧ Below w.heap.size w w' := by
  go_enter Tryz.func109, Tryz.ntmps109
  go_wp2_with (fail)
  go_ret
  exact ⟨_, rfl, ⟨_, rfl, by simp [go_sem]⟩, (Below.refl _ _).alloc (Nat.le_refl _) _⟩

/-- Block r is the map of what each Op does. -/
structure Does (W : World) (r : Nat) (v0 v1 v2 v3 v4 v5 v6 v7 : Value) : Prop where
  map : MapAt W r [(⟨#[110, 111, 116]⟩, v0), (⟨#[110, 117, 108, 108]⟩, v1), (⟨#[97, 110, 100]⟩, v2), (⟨#[111, 114]⟩, v3), (⟨#[61]⟩, v4), (⟨#[60]⟩, v5), (⟨#[43]⟩, v6), (⟨#[45]⟩, v7)]
  c0 : Clo W v0 143 107
  c1 : Clo W v1 143 108
  c2 : Clo W v2 147 110
  c3 : Clo W v3 147 111
  c4 : Clo W v4 147 112
  c5 : Clo W v5 147 113
  c6 : Clo W v6 147 114
  c7 : Clo W v7 147 115
theorem Does.below {W W' : World} {r : Nat} {v0 v1 v2 v3 v4 v5 v6 v7 : Value} (h : Does W r v0 v1 v2 v3 v4 v5 v6 v7) (hb : Below W.heap.size W W') : Does W' r v0 v1 v2 v3 v4 v5 v6 v7 :=
  ⟨h.map.below hb, h.c0.below hb, h.c1.below hb, h.c2.below hb, h.c3.below hb, h.c4.below hb, h.c5.below hb, h.c6.below hb, h.c7.below hb⟩

set_option maxRecDepth 100000 in
set_option maxHeartbeats 4000000 in
theorem doings_any (w : World) :
    Calls Tryz.prog 67 #[] w fun e w' => ∃ r v0 v1 v2 v3 v4 v5 v6 v7, e = .returned (.map (some r)) ∧ Does w' r v0 v1 v2 v3 v4 v5 v6 v7 ∧ Below w.heap.size w w' := by
  have hmm := @run_makeMap Tryz.prog
  go_enter Tryz.func67, Tryz.ntmps67
  have HM0 := Lib.hid (MapAt.made w)
  have HB0 : Hid (Below w.heap.size w (w.alloc (.map #[] 0))) := (Below.refl _ _).alloc (Nat.le_refl _) _
  go_wp2_with (go_at_call 106; refine (one_any _ _).mono ?_)
  rintro e x0 ⟨v0, rfl, hk0, hb0⟩
  have HMx0 := Lib.hid (HM0.out.below hb0)
  have HBx0 : Hid (Below w.heap.size w x0) := HB0.out.trans (hb0.mono HB0.out.size)
  have HCx0 := Lib.hid hk0
  clear hk0 hb0
  go_wp2_with (with_reducible refine wpList_insert_new _ rfl _ _ _ 93 rfl 9 125 Tryz.underlying93 Tryz.underlying9 w.heap.size [] rfl HMx0.out ⟨#[110, 111, 116]⟩ _ rfl rfl ?n0 ?k0)
  case n0 => intro y hy; cases hy
  intro y0 hm0 hg0
  have HM1 := Lib.hid hm0
  have HB1 : Hid (Below w.heap.size w y0) := below_grow HBx0.out hg0 (Nat.le_refl _) HBx0.out.size
  have HC1_0 := Lib.hid (HCx0.out.map hg0 HMx0.out)
  clear hm0 hg0
  go_wp2_with (go_at_call 106; refine (one_any _ _).mono ?_)
  rintro e x1 ⟨v1, rfl, hk1, hb1⟩
  have HMx1 := Lib.hid (HM1.out.below hb1)
  have HBx1 : Hid (Below w.heap.size w x1) := HB1.out.trans (hb1.mono HB1.out.size)
  have HCx1 := Lib.hid hk1
  have HCx1_0 := Lib.hid (HC1_0.out.below hb1)
  clear hk1 hb1
  go_wp2_with (with_reducible refine wpList_insert_new _ rfl _ _ _ 93 rfl 9 125 Tryz.underlying93 Tryz.underlying9 w.heap.size [(⟨#[110, 111, 116]⟩, v0)] rfl HMx1.out ⟨#[110, 117, 108, 108]⟩ _ rfl rfl ?n1 ?k1)
  case n1 => intro y hy; simp at hy; rcases hy with rfl <;> rfl
  intro y1 hm1 hg1
  have HM2 := Lib.hid hm1
  have HB2 : Hid (Below w.heap.size w y1) := below_grow HBx1.out hg1 (Nat.le_refl _) HBx1.out.size
  have HC2_1 := Lib.hid (HCx1.out.map hg1 HMx1.out)
  have HC2_0 := Lib.hid (HCx1_0.out.map hg1 HMx1.out)
  clear hm1 hg1
  go_wp2_with (go_at_call 109; refine (two_any _ _).mono ?_)
  rintro e x2 ⟨v2, rfl, hk2, hb2⟩
  have HMx2 := Lib.hid (HM2.out.below hb2)
  have HBx2 : Hid (Below w.heap.size w x2) := HB2.out.trans (hb2.mono HB2.out.size)
  have HCx2 := Lib.hid hk2
  have HCx2_0 := Lib.hid (HC2_0.out.below hb2)
  have HCx2_1 := Lib.hid (HC2_1.out.below hb2)
  clear hk2 hb2
  go_wp2_with (with_reducible refine wpList_insert_new _ rfl _ _ _ 93 rfl 9 125 Tryz.underlying93 Tryz.underlying9 w.heap.size [(⟨#[110, 111, 116]⟩, v0), (⟨#[110, 117, 108, 108]⟩, v1)] rfl HMx2.out ⟨#[97, 110, 100]⟩ _ rfl rfl ?n2 ?k2)
  case n2 => intro y hy; simp at hy; rcases hy with rfl | rfl <;> rfl
  intro y2 hm2 hg2
  have HM3 := Lib.hid hm2
  have HB3 : Hid (Below w.heap.size w y2) := below_grow HBx2.out hg2 (Nat.le_refl _) HBx2.out.size
  have HC3_2 := Lib.hid (HCx2.out.map hg2 HMx2.out)
  have HC3_0 := Lib.hid (HCx2_0.out.map hg2 HMx2.out)
  have HC3_1 := Lib.hid (HCx2_1.out.map hg2 HMx2.out)
  clear hm2 hg2
  go_wp2_with (go_at_call 109; refine (two_any _ _).mono ?_)
  rintro e x3 ⟨v3, rfl, hk3, hb3⟩
  have HMx3 := Lib.hid (HM3.out.below hb3)
  have HBx3 : Hid (Below w.heap.size w x3) := HB3.out.trans (hb3.mono HB3.out.size)
  have HCx3 := Lib.hid hk3
  have HCx3_0 := Lib.hid (HC3_0.out.below hb3)
  have HCx3_1 := Lib.hid (HC3_1.out.below hb3)
  have HCx3_2 := Lib.hid (HC3_2.out.below hb3)
  clear hk3 hb3
  go_wp2_with (with_reducible refine wpList_insert_new _ rfl _ _ _ 93 rfl 9 125 Tryz.underlying93 Tryz.underlying9 w.heap.size [(⟨#[110, 111, 116]⟩, v0), (⟨#[110, 117, 108, 108]⟩, v1), (⟨#[97, 110, 100]⟩, v2)] rfl HMx3.out ⟨#[111, 114]⟩ _ rfl rfl ?n3 ?k3)
  case n3 => intro y hy; simp at hy; rcases hy with rfl | rfl | rfl <;> rfl
  intro y3 hm3 hg3
  have HM4 := Lib.hid hm3
  have HB4 : Hid (Below w.heap.size w y3) := below_grow HBx3.out hg3 (Nat.le_refl _) HBx3.out.size
  have HC4_3 := Lib.hid (HCx3.out.map hg3 HMx3.out)
  have HC4_0 := Lib.hid (HCx3_0.out.map hg3 HMx3.out)
  have HC4_1 := Lib.hid (HCx3_1.out.map hg3 HMx3.out)
  have HC4_2 := Lib.hid (HCx3_2.out.map hg3 HMx3.out)
  clear hm3 hg3
  go_wp2_with (go_at_call 109; refine (two_any _ _).mono ?_)
  rintro e x4 ⟨v4, rfl, hk4, hb4⟩
  have HMx4 := Lib.hid (HM4.out.below hb4)
  have HBx4 : Hid (Below w.heap.size w x4) := HB4.out.trans (hb4.mono HB4.out.size)
  have HCx4 := Lib.hid hk4
  have HCx4_0 := Lib.hid (HC4_0.out.below hb4)
  have HCx4_1 := Lib.hid (HC4_1.out.below hb4)
  have HCx4_2 := Lib.hid (HC4_2.out.below hb4)
  have HCx4_3 := Lib.hid (HC4_3.out.below hb4)
  clear hk4 hb4
  go_wp2_with (with_reducible refine wpList_insert_new _ rfl _ _ _ 93 rfl 9 125 Tryz.underlying93 Tryz.underlying9 w.heap.size [(⟨#[110, 111, 116]⟩, v0), (⟨#[110, 117, 108, 108]⟩, v1), (⟨#[97, 110, 100]⟩, v2), (⟨#[111, 114]⟩, v3)] rfl HMx4.out ⟨#[61]⟩ _ rfl rfl ?n4 ?k4)
  case n4 => intro y hy; simp at hy; rcases hy with rfl | rfl | rfl | rfl <;> rfl
  intro y4 hm4 hg4
  have HM5 := Lib.hid hm4
  have HB5 : Hid (Below w.heap.size w y4) := below_grow HBx4.out hg4 (Nat.le_refl _) HBx4.out.size
  have HC5_4 := Lib.hid (HCx4.out.map hg4 HMx4.out)
  have HC5_0 := Lib.hid (HCx4_0.out.map hg4 HMx4.out)
  have HC5_1 := Lib.hid (HCx4_1.out.map hg4 HMx4.out)
  have HC5_2 := Lib.hid (HCx4_2.out.map hg4 HMx4.out)
  have HC5_3 := Lib.hid (HCx4_3.out.map hg4 HMx4.out)
  clear hm4 hg4
  go_wp2_with (go_at_call 109; refine (two_any _ _).mono ?_)
  rintro e x5 ⟨v5, rfl, hk5, hb5⟩
  have HMx5 := Lib.hid (HM5.out.below hb5)
  have HBx5 : Hid (Below w.heap.size w x5) := HB5.out.trans (hb5.mono HB5.out.size)
  have HCx5 := Lib.hid hk5
  have HCx5_0 := Lib.hid (HC5_0.out.below hb5)
  have HCx5_1 := Lib.hid (HC5_1.out.below hb5)
  have HCx5_2 := Lib.hid (HC5_2.out.below hb5)
  have HCx5_3 := Lib.hid (HC5_3.out.below hb5)
  have HCx5_4 := Lib.hid (HC5_4.out.below hb5)
  clear hk5 hb5
  go_wp2_with (with_reducible refine wpList_insert_new _ rfl _ _ _ 93 rfl 9 125 Tryz.underlying93 Tryz.underlying9 w.heap.size [(⟨#[110, 111, 116]⟩, v0), (⟨#[110, 117, 108, 108]⟩, v1), (⟨#[97, 110, 100]⟩, v2), (⟨#[111, 114]⟩, v3), (⟨#[61]⟩, v4)] rfl HMx5.out ⟨#[60]⟩ _ rfl rfl ?n5 ?k5)
  case n5 => intro y hy; simp at hy; rcases hy with rfl | rfl | rfl | rfl | rfl <;> rfl
  intro y5 hm5 hg5
  have HM6 := Lib.hid hm5
  have HB6 : Hid (Below w.heap.size w y5) := below_grow HBx5.out hg5 (Nat.le_refl _) HBx5.out.size
  have HC6_5 := Lib.hid (HCx5.out.map hg5 HMx5.out)
  have HC6_0 := Lib.hid (HCx5_0.out.map hg5 HMx5.out)
  have HC6_1 := Lib.hid (HCx5_1.out.map hg5 HMx5.out)
  have HC6_2 := Lib.hid (HCx5_2.out.map hg5 HMx5.out)
  have HC6_3 := Lib.hid (HCx5_3.out.map hg5 HMx5.out)
  have HC6_4 := Lib.hid (HCx5_4.out.map hg5 HMx5.out)
  clear hm5 hg5
  go_wp2_with (go_at_call 109; refine (two_any _ _).mono ?_)
  rintro e x6 ⟨v6, rfl, hk6, hb6⟩
  have HMx6 := Lib.hid (HM6.out.below hb6)
  have HBx6 : Hid (Below w.heap.size w x6) := HB6.out.trans (hb6.mono HB6.out.size)
  have HCx6 := Lib.hid hk6
  have HCx6_0 := Lib.hid (HC6_0.out.below hb6)
  have HCx6_1 := Lib.hid (HC6_1.out.below hb6)
  have HCx6_2 := Lib.hid (HC6_2.out.below hb6)
  have HCx6_3 := Lib.hid (HC6_3.out.below hb6)
  have HCx6_4 := Lib.hid (HC6_4.out.below hb6)
  have HCx6_5 := Lib.hid (HC6_5.out.below hb6)
  clear hk6 hb6
  go_wp2_with (with_reducible refine wpList_insert_new _ rfl _ _ _ 93 rfl 9 125 Tryz.underlying93 Tryz.underlying9 w.heap.size [(⟨#[110, 111, 116]⟩, v0), (⟨#[110, 117, 108, 108]⟩, v1), (⟨#[97, 110, 100]⟩, v2), (⟨#[111, 114]⟩, v3), (⟨#[61]⟩, v4), (⟨#[60]⟩, v5)] rfl HMx6.out ⟨#[43]⟩ _ rfl rfl ?n6 ?k6)
  case n6 => intro y hy; simp at hy; rcases hy with rfl | rfl | rfl | rfl | rfl | rfl <;> rfl
  intro y6 hm6 hg6
  have HM7 := Lib.hid hm6
  have HB7 : Hid (Below w.heap.size w y6) := below_grow HBx6.out hg6 (Nat.le_refl _) HBx6.out.size
  have HC7_6 := Lib.hid (HCx6.out.map hg6 HMx6.out)
  have HC7_0 := Lib.hid (HCx6_0.out.map hg6 HMx6.out)
  have HC7_1 := Lib.hid (HCx6_1.out.map hg6 HMx6.out)
  have HC7_2 := Lib.hid (HCx6_2.out.map hg6 HMx6.out)
  have HC7_3 := Lib.hid (HCx6_3.out.map hg6 HMx6.out)
  have HC7_4 := Lib.hid (HCx6_4.out.map hg6 HMx6.out)
  have HC7_5 := Lib.hid (HCx6_5.out.map hg6 HMx6.out)
  clear hm6 hg6
  go_wp2_with (go_at_call 109; refine (two_any _ _).mono ?_)
  rintro e x7 ⟨v7, rfl, hk7, hb7⟩
  have HMx7 := Lib.hid (HM7.out.below hb7)
  have HBx7 : Hid (Below w.heap.size w x7) := HB7.out.trans (hb7.mono HB7.out.size)
  have HCx7 := Lib.hid hk7
  have HCx7_0 := Lib.hid (HC7_0.out.below hb7)
  have HCx7_1 := Lib.hid (HC7_1.out.below hb7)
  have HCx7_2 := Lib.hid (HC7_2.out.below hb7)
  have HCx7_3 := Lib.hid (HC7_3.out.below hb7)
  have HCx7_4 := Lib.hid (HC7_4.out.below hb7)
  have HCx7_5 := Lib.hid (HC7_5.out.below hb7)
  have HCx7_6 := Lib.hid (HC7_6.out.below hb7)
  clear hk7 hb7
  go_wp2_with (with_reducible refine wpList_insert_new _ rfl _ _ _ 93 rfl 9 125 Tryz.underlying93 Tryz.underlying9 w.heap.size [(⟨#[110, 111, 116]⟩, v0), (⟨#[110, 117, 108, 108]⟩, v1), (⟨#[97, 110, 100]⟩, v2), (⟨#[111, 114]⟩, v3), (⟨#[61]⟩, v4), (⟨#[60]⟩, v5), (⟨#[43]⟩, v6)] rfl HMx7.out ⟨#[45]⟩ _ rfl rfl ?n7 ?k7)
  case n7 => intro y hy; simp at hy; rcases hy with rfl | rfl | rfl | rfl | rfl | rfl | rfl <;> rfl
  intro y7 hm7 hg7
  have HM8 := Lib.hid hm7
  have HB8 : Hid (Below w.heap.size w y7) := below_grow HBx7.out hg7 (Nat.le_refl _) HBx7.out.size
  have HC8_7 := Lib.hid (HCx7.out.map hg7 HMx7.out)
  have HC8_0 := Lib.hid (HCx7_0.out.map hg7 HMx7.out)
  have HC8_1 := Lib.hid (HCx7_1.out.map hg7 HMx7.out)
  have HC8_2 := Lib.hid (HCx7_2.out.map hg7 HMx7.out)
  have HC8_3 := Lib.hid (HCx7_3.out.map hg7 HMx7.out)
  have HC8_4 := Lib.hid (HCx7_4.out.map hg7 HMx7.out)
  have HC8_5 := Lib.hid (HCx7_5.out.map hg7 HMx7.out)
  have HC8_6 := Lib.hid (HCx7_6.out.map hg7 HMx7.out)
  clear hm7 hg7
  go_wp2_with (fail)
  go_ret
  exact ⟨_, _, _, _, _, _, _, _, _, rfl, ⟨HM8.out, HC8_0.out, HC8_1.out, HC8_2.out, HC8_3.out, HC8_4.out, HC8_5.out, HC8_6.out, HC8_7.out⟩, HB8.out⟩
end Go.Proofs.YtmhkmliebhbkdaaGreat

/- The document's own Plus and Minus; what Equal, Less, Plus, Minus come to, whatever the two are. -/
namespace Go.Proofs.YtmhkmliebhbkdaaGreat
open Go.RowKit Go.Lib

end Go.Proofs.YtmhkmliebhbkdaaGreat
