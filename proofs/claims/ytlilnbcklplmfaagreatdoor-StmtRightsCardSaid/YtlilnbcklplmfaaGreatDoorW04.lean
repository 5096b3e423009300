import Derived.Test.YtlilnbcklplmfaaGreatDoorW03
import Derived.Deep.LoopGhost
import Derived.Deep.RegionWith
import Derived.RegionTactic

/- How deep an expression is, and how many nodes it has: within, May. -/
namespace Go.Proofs.YtlilnbcklplmfaaGreatDoor
open Go.RowKit Go.Lib

def fmT (t : Ex) : Bool := fmB t.op t.x.k t.x.i t.x.s t.s t.l.length
def partsF (f : Ex → Int → Bool × Int) : List Ex → Int → Bool × Int
  | [], left => (true, left)
  | x :: r, left => if (f x left).1 = true then partsF f r (f x left).2 else (false, (f x left).2)
def withinF : Nat → Ex → Int → Bool × Int
  | 0, _, left => (false, left - 1)
  | d + 1, t, left => if left - 1 < 0 then (false, left - 1) else if fmT t = true then partsF (withinF d) t.l (left - 1) else (false, left - 1)
def mayT (t : Ex) : Bool := (withinF 12 t 60).1

def Bd (m : Int) (r : Bool × Int) : Prop := r.2 ≤ m ∧ -1 ≤ r.2 ∧ (r.1 = true → 0 ≤ r.2)
theorem parts_bd {f : Ex → Int → Bool × Int} (hf : ∀ x m, 0 ≤ m → Bd m (f x m)) : ∀ (l : List Ex) (m : Int), 0 ≤ m → Bd m (partsF f l m)
  | [], m, h => ⟨Int.le_refl _, by show -1 ≤ m; omega, fun _ => h⟩
  | x :: r, m, h => by
    obtain ⟨h1, h2, h3⟩ := hf x m h
    unfold partsF
    by_cases hb : (f x m).1 = true
    · rw [if_pos hb]
      obtain ⟨k1, k2, k3⟩ := parts_bd hf r (f x m).2 (h3 hb)
      exact ⟨by omega, k2, k3⟩
    · rw [if_neg hb]
      exact ⟨h1, h2, fun e => by cases e⟩
theorem within_bd : ∀ (d : Nat) (t : Ex) (m : Int), 0 ≤ m → Bd m (withinF d t m)
  | 0, t, m, h => by
    unfold withinF
    exact ⟨by show m - 1 ≤ m; omega, by show -1 ≤ m - 1; omega, fun e => by cases e⟩
  | d + 1, t, m, h => by
    unfold withinF
    by_cases h0 : m - 1 < 0
    · rw [if_pos h0]
      exact ⟨by show m - 1 ≤ m; omega, by show -1 ≤ m - 1; omega, fun e => by cases e⟩
    · rw [if_neg h0]
      by_cases hf : fmT t = true
      · rw [if_pos hf]
        obtain ⟨k1, k2, k3⟩ := parts_bd (within_bd d) t.l (m - 1) (by omega)
        exact ⟨by omega, k2, k3⟩
      · rw [if_neg hf]
        exact ⟨by show m - 1 ≤ m; omega, by show -1 ≤ m - 1; omega, fun e => by cases e⟩

/-- Block g holds the number m, and is one's own. -/
def Cnt (W : World) (g : Nat) (m : Int) : Prop := W.heap[g]? = some (.cells #[.int .i64 m] 3 (0, 0))
theorem Cnt.lt {W : World} {g : Nat} {m : Int} (h : Cnt W g m) : g < W.heap.size := (Array.getElem?_eq_some_iff.1 h).1
theorem Cnt.c0 {W : World} {g : Nat} {m : Int} (h : Cnt W g m) : W.cell? ⟨g, 0, none⟩ = some (.int .i64 m) := by rw [Lib.cell_of_heap h]; rfl
theorem Cnt.fz {W : World} {g : Nat} {m : Int} (h : Cnt W g m) (o : Nat) : W.frozen? ⟨g, o, none⟩ = false := Lib.frozen_of_heap h o
theorem Cnt.new {W : World} {n : Nat} (h : W.heap.size = n) (m : Int) : Cnt (W.alloc (.cells #[.int .i64 m] 3)) n m := by
  subst h
  show (W.heap.push _)[W.heap.size]? = _
  simp
theorem Cnt.keep {W W' : World} {g : Nat} {m : Int} {B : Nat} (h : Cnt W g m) (hb : Below B W W') (hB : g < B) : Cnt W' g m := (hb.block g hB).trans h
theorem Cnt.put {W : World} {g : Nat} {m : Int} (h : Cnt W g m) (k : Int) : Cnt (W.setCell ⟨g, 0, none⟩ (.int .i64 k)) g k := by
  unfold Cnt at h ⊢
  simp [World.setCell, Array.getElem?_modify, h]
theorem grow_set (W : World) (g : Nat) (o : Nat) (v : Value) : W.grownBy (W.setCell ⟨g, o, none⟩ v) (some g) :=
  ⟨rfl, rfl, rfl, by simp [World.setCell], fun k _ hk => Below.heap_setCell _ _ _ _ (fun e => hk (by rw [e]))⟩
theorem grow_trans {a b c : World} {row : Option Nat} (h : a.grownBy b row) (k : b.grownBy c row) : a.grownBy c row :=
  ⟨k.os.trans h.os, k.tape.trans h.tape, k.output.trans h.output, Nat.le_trans h.size k.size, fun i hi hr => (k.block i (Nat.lt_of_lt_of_le hi h.size) hr).trans (h.block i hi hr)⟩
theorem grow_refl (W : World) (row : Option Nat) : W.grownBy W row := ⟨rfl, rfl, rfl, Nat.le_refl _, fun _ _ _ => rfl⟩
theorem grow_below {W W' : World} (h : Below W.heap.size W W') (row : Option Nat) : W.grownBy W' row := ⟨h.os, h.tape, h.output, h.size, fun k hk _ => h.block k hk⟩
theorem grow_alloc (W : World) (o : Obj) (row : Option Nat) : W.grownBy (W.alloc o) row := grow_below ((Below.refl _ _).alloc (Nat.le_refl _) o) row
theorem below_grow {B : Nat} {a b c : World} {g : Nat} (h : Below B a b) (k : b.grownBy c (some g)) (hg : B ≤ g) (hB : B ≤ b.heap.size) : Below B a c :=
  ⟨k.os.trans h.os, k.tape.trans h.tape, k.output.trans h.output, Nat.le_trans h.size k.size, fun i hi => (k.block i (Nat.lt_of_lt_of_le hi hB) (fun e => by injection e with e; omega)).trans (h.block i hi)⟩

def Wit (w : World) (lb : Nat) (r : Bool × Int) (e : Ending) (w' : World) : Prop := e = .returned (.bool r.1) ∧ Cnt w' lb r.2 ∧ w.grownBy w' (some lb)
def EVt (t : Ex) (u : Value) : Value := .agg #[.string t.op, .int .i64 t.x.k, .int .i64 t.x.i, .string t.x.s, .string t.s, u]

set_option maxRecDepth 100000 in
set_option maxHeartbeats 4000000 in
theorem within_0 (d : Int) (hd : d = 0 ∨ (0 < d ∧ d ≤ 100)) (op : ByteArray) (k i : Int) (vs s : ByteArray) (A : Option Addr) (n cap : Nat) (lb : Nat) (m : Int) (w : World) (hm : 0 ≤ m) (hm' : m ≤ 1000) (hc : Cnt w lb m) (h0 : d = 0 ∨ m - 1 < 0) :
    Calls Tryz.prog 66 #[.agg #[.string op, .int .i64 k, .int .i64 i, .string vs, .string s, .slice A n cap], .int .i64 d, .pointer (some ⟨lb, 0, none⟩)] w (Wit w lb (false, m - 1)) := by
  have HC := Lib.hid hc
  clear hc
  have hlt := HC.out.lt
  have e0 := HC.out.c0
  have ef := HC.out.fz 0
  have hne : ¬ w.heap.size = lb := by omega
  have hne' : ¬ lb = w.heap.size := by omega
  by_cases hz : d = 0
  · subst hz
    clear hd h0
    go_enter Tryz.func66, Tryz.ntmps66
    go_wp2_with (fail)
    go_ret
    exact ⟨rfl, (HC.out.put _).keep ((Below.refl _ _).alloc (Nat.le_refl _) _) (by simpa [World.setCell] using hlt), grow_trans (grow_set _ _ _ _) (grow_alloc _ _ _)⟩
  · have h1 : decide (m - 1 < 0) = true := decide_eq_true (by omega)
    have h2 : (d == 0) = false := beq_eq_false_iff_ne.2 hz
    have h3 : m - 1 < 0 := by omega
    clear hd h0
    go_enter Tryz.func66, Tryz.ntmps66
    go_wp2_with (fail)
    go_ret
    exact ⟨rfl, (HC.out.put _).keep ((Below.refl _ _).alloc (Nat.le_refl _) _) (by simpa [World.setCell] using hlt), grow_trans (grow_set _ _ _ _) (grow_alloc _ _ _)⟩

/-- The world of a node that goes on: its count is written, its box is there. -/
structure Node (w : World) (lb : Nat) (t : Ex) (u : Value) (m : Int) (W : World) : Prop where
  grown : w.grownBy W (some lb)
  cnt : Cnt W lb m
  box : W.heap[w.heap.size]? = some (.cells #[.string t.op, .int .i64 t.x.k, .int .i64 t.x.i, .string t.x.s, .string t.s, u] 30 (0, 0))
theorem box_cells {W : World} {b : Nat} {t : Ex} {u : Value} (h : W.heap[b]? = some (.cells #[.string t.op, .int .i64 t.x.k, .int .i64 t.x.i, .string t.x.s, .string t.s, u] 30 (0, 0))) : ExC W ⟨b, 0, none⟩ t u := by
  refine ⟨?_, ?_, ?_, ?_, ?_, ?_⟩ <;> · rw [Lib.cell_of_heap h]; rfl

set_option maxRecDepth 100000 in
set_option maxHeartbeats 4000000 in
theorem within_f (d : Nat) (hd : d ≤ 100) (t : Ex) (u : Value) (P : Nat → Prop) (N : Nat) (lb : Nat) (m : Int) (w : World) (ht : Tr w P N t u) (hm : 1 ≤ m) (hm' : m ≤ 1000) (hc : Cnt w lb m) (hf : fmT t = false) :
    Calls Tryz.prog 66 #[EVt t u, .int .i64 ((d : Int) + 1), .pointer (some ⟨lb, 0, none⟩)] w (Wit w lb (false, m - 1)) := by
  have HC := Lib.hid hc
  have hs := ht.1
  obtain ⟨A, cap, rfl, hn⟩ := ht.form
  have HF := Lib.hid hf
  clear hc ht hf
  cases t with
  | mk op x s l =>
  obtain ⟨k, i, vs⟩ := x
  unfold EVt
  simp only [Ex.op, Ex.x, Ex.s, Ex.l] at hs hn ⊢
  have hlt := HC.out.lt
  have e0 := HC.out.c0
  have ef := HC.out.fz 0
  have hne : ¬ w.heap.size = lb := by omega
  have hne' : ¬ lb = w.heap.size := by omega
  have h1 : decide (m - 1 < 0) = false := decide_eq_false (by omega)
  have h2 : ((d : Int) + 1 == 0) = false := beq_eq_false_iff_ne.2 (by omega)
  go_enter Tryz.func66, Tryz.ntmps66
  go_wp2_with (go_at_call 116; refine (formed_any _ _ _ _ _ _ _ _ _ hn hs).mono ?_; rintro e w1 ⟨rfl, hb1⟩; rw [show fmB op k i vs s l.length = false from HF.out])
  go_ret
  exact ⟨rfl, ((HC.out.put _).keep ((Below.refl _ _).alloc (Nat.le_refl _) _) (by simpa [World.setCell] using hlt)).keep hb1 (by simp [World.setCell]; omega), grow_trans (grow_trans (grow_set _ _ _ _) (grow_alloc _ _ _)) (grow_below hb1 _)⟩

theorem Sl.at_ {w : World} {P : Nat → Prop} {N : Nat} {l : List Ex} {A : Option Addr} {c n : Nat} (h : Sl w P N l (.slice A n c)) {j : Nat} (hj : j < l.length) : ∃ a u M, A = some a ∧ P a.block ∧ ExC w (a.add (j * 6)) l[j] u ∧ Tr w P M l[j] u ∧ M < N := by
  cases N with
  | zero => obtain ⟨rfl, _⟩ := h; simp at hj
  | succ M =>
    obtain ⟨A', cap, e, hl, hh⟩ := h
    obtain ⟨a, u, e1, hp, hc, hs, hr⟩ := hh j hj
    injection e with e2 _ _
    exact ⟨a, u, M, e2.trans e1, hp, hc, ⟨hs, hr⟩, Nat.lt_succ_self _⟩

theorem parts_t {f : Ex → Int → Bool × Int} {l : List Ex} {j : Nat} (hj : j < l.length) {m : Int} (h : (f l[j] m).1 = true) : partsF f (l.drop j) m = partsF f (l.drop (j + 1)) (f l[j] m).2 := by
  rw [List.drop_eq_getElem_cons hj]
  show (if (f l[j] m).1 = true then _ else _) = _
  rw [if_pos h]
theorem parts_f {f : Ex → Int → Bool × Int} {l : List Ex} {j : Nat} (hj : j < l.length) {m : Int} (h : (f l[j] m).1 = false) : partsF f (l.drop j) m = (false, (f l[j] m).2) := by
  rw [List.drop_eq_getElem_cons hj]
  show (if (f l[j] m).1 = true then _ else _) = _
  rw [if_neg (by rw [h]; decide)]

set_option maxRecDepth 100000 in
set_option maxHeartbeats 8000000 in
theorem within_t (d : Nat) (hd : d ≤ 100) (t : Ex) (u : Value) (P : Nat → Prop) (N : Nat) (lb : Nat) (hP : ¬ P lb) (m : Int) (w : World) (ht : Tr w P N t u) (hm : 1 ≤ m) (hm' : m ≤ 1000) (hc : Cnt w lb m) (hf : fmT t = true)
    (hrec : ∀ (t : Ex) (u : Value) (M : Nat) (m : Int) (w : World), Tr w P M t u → 0 ≤ m → m ≤ 1000 → Cnt w lb m → Calls Tryz.prog 66 #[EVt t u, .int .i64 d, .pointer (some ⟨lb, 0, none⟩)] w (Wit w lb (withinF d t m))) :
    Calls Tryz.prog 66 #[EVt t u, .int .i64 ((d : Int) + 1), .pointer (some ⟨lb, 0, none⟩)] w (Wit w lb (partsF (withinF d) t.l (m - 1))) := by
  have HR := Lib.hid hrec
  have HC := Lib.hid hc
  have hs := ht.1
  have HT := Lib.hid ht
  obtain ⟨A, cap, rfl, hn⟩ := ht.form
  have HF := Lib.hid hf
  clear hc ht hf hrec
  cases t with
  | mk op x s l =>
  obtain ⟨k, i, vs⟩ := x
  unfold EVt
  simp only [Ex.op, Ex.x, Ex.s, Ex.l] at hs hn ⊢
  have hlt := HC.out.lt
  have e0 := HC.out.c0
  have ef := HC.out.fz 0
  have hne : ¬ w.heap.size = lb := by omega
  have hne' : ¬ lb = w.heap.size := by omega
  have h1 : decide (m - 1 < 0) = false := decide_eq_false (by omega)
  have h2 : ((d : Int) + 1 == 0) = false := beq_eq_false_iff_ne.2 (by omega)
  obtain ⟨n, HN⟩ : ∃ n, Hid (l.length = n) := ⟨_, Lib.hid rfl⟩
  have HS : Hid (Sl w P N l (.slice A n cap)) := HN.out ▸ HT.out.2
  rw [HN.out] at hn ⊢
  unfold maxLen at hn
  go_enter Tryz.func66, Tryz.ntmps66
  go_wp2_with (go_at_call 116; refine (formed_any _ _ _ _ _ _ _ _ _ (by unfold maxLen; omega) hs).mono ?_; rintro e w1 ⟨rfl, hb1⟩; rw [show fmB op k i vs s n = true from HN.out ▸ HF.out]; have hc1 := (bcell hb1).1; have HB1 := Lib.hid hb1; have hy1 := hb1.size; (try simp [World.setCell] at hy1); have hz1 : w.heap.size < w1.heap.size := (by omega); clear hb1)
  have HW1 : Hid (w.grownBy w1 (some lb) ∧ Cnt w1 lb (m - 1)) :=
    ⟨grow_trans (grow_trans (grow_set _ _ _ _) (grow_alloc _ _ _)) (grow_below HB1.out _), ((HC.out.put _).keep ((Below.refl _ _).alloc (Nat.le_refl _) _) (by simpa [World.setCell] using hlt)).keep HB1.out (by simp [World.setCell]; omega)⟩
  clear HB1 hc1
  go_loopw [30] (fun iv wr => ∃ (j : Nat) (q : Int), iv = .int .i64 j ∧ j ≤ n ∧ 0 ≤ q ∧ q ≤ 1000 ∧ w.grownBy wr (some lb) ∧ Cnt wr lb q ∧ Hid (partsF (withinF d) l (m - 1) = partsF (withinF d) (l.drop j) q)) (fun iv _ => n - (intOf iv).toNat)
  case atStart => exact ⟨0, m - 1, rfl, by omega, by omega, by omega, HW1.out.1, HW1.out.2, rfl⟩
  case round =>
    obtain ⟨j, q, rfl, hj, hq, hq', hg, hcn, HP⟩ := hrel
    have HG := Lib.hid (And.intro hg hcn)
    by_cases hlt1 : j < n
    · have hjl : j < l.length := by rw [HN.out]; exact hlt1
      obtain ⟨a, u', M, rfl, hp, hE, hTr, _⟩ := HS.out.at_ hjl
      obtain ⟨A', cap', hu, _⟩ := hTr.form
      obtain ⟨n', hn'⟩ : ∃ n', n' = l[j].l.length := ⟨_, rfl⟩
      rw [← hn'] at hu
      clear hn'
      subst hu
      have hal : a.block < w.heap.size := by have := hE.lt; rwa [add_block] at this
      have hanl : a.block ≠ lb := fun e => hP (e ▸ hp)
      have hblk : wr.heap[a.block]? = w.heap[a.block]? := hg.block _ hal (fun e => hanl (by injection e))
      have hE' := hE.keep (W' := wr) (by rw [add_block]; exact hblk)
      have HT' := Lib.hid (hTr.grown hg hP)
      have HX := Lib.hid (parts_t (f := withinF d) hjl (m := q))
      have HY := Lib.hid (parts_f (f := withinF d) hjl (m := q))
      have HB := Lib.hid (within_bd d l[j] q hq)
      have c0 := hE'.c0
      have c1 := hE'.c1
      have c2 := hE'.c2
      have c3 := hE'.c3
      have c4 := hE'.c4
      have c5 := hE'.c5
      have hwl := hcn.lt
      clear hE hE' hTr hblk hg hcn
      generalize l[j] = y at c0 c1 c2 c3 c4 c5 HT' HX HY HB
      cases hb : (withinF d y q).1 with
      | true =>
        have HBT := Lib.hid hb
        clear hb
        go_wp2_with (go_at_call 66; refine (HR.out y _ M q _ (HT'.out.below ((Below.refl _ _).alloc (Nat.le_refl _) _)) hq hq' (HG.out.2.keep ((Below.refl _ _).alloc (Nat.le_refl _) _) hwl)).mono ?_; rintro e w2 ⟨rfl, hcn2, hg2⟩; rw [HBT.out]; have HG2 := Lib.hid (And.intro hcn2 hg2); clear hcn2 hg2)
        go_roundw
        case rel => exact ⟨j + 1, _, by go_num, by omega, HB.out.2.2 HBT.out, by have := HB.out.1; omega, grow_trans (grow_trans HG.out.1 (grow_alloc _ _ _)) HG2.out.2, HG2.out.1, HP.out.trans (HX.out HBT.out)⟩
        case measure => simp [intOf]; omega
      | false =>
        have HBT := Lib.hid hb
        clear hb
        go_wp2_with (go_at_call 66; refine (HR.out y _ M q _ (HT'.out.below ((Below.refl _ _).alloc (Nat.le_refl _) _)) hq hq' (HG.out.2.keep ((Below.refl _ _).alloc (Nat.le_refl _) _) hwl)).mono ?_; rintro e w2 ⟨rfl, hcn2, hg2⟩; rw [HBT.out]; have HG2 := Lib.hid (And.intro hcn2 hg2); clear hcn2 hg2)
        go_ret
        unfold Wit
        rw [HP.out, HY.out HBT.out]
        exact ⟨rfl, HG2.out.1, grow_trans (grow_trans HG.out.1 (grow_alloc _ _ _)) HG2.out.2⟩
    · obtain rfl : j = n := by omega
      clear hg hcn
      go_wp2_with (fail)
      go_ret
      unfold Wit
      rw [HP.out, List.drop_eq_nil_of_le (by rw [HN.out]; exact Nat.le_refl _)]
      exact ⟨rfl, HG.out.2, HG.out.1⟩

theorem within_any (P : Nat → Prop) (lb : Nat) (hP : ¬ P lb) : ∀ (d : Nat), d ≤ 100 → ∀ (t : Ex) (u : Value) (N : Nat) (m : Int) (w : World), Tr w P N t u → 0 ≤ m → m ≤ 1000 → Cnt w lb m →
    Calls Tryz.prog 66 #[EVt t u, .int .i64 d, .pointer (some ⟨lb, 0, none⟩)] w (Wit w lb (withinF d t m))
  | 0, _, t, u, N, m, w, ht, hm, hm', hc => by
    obtain ⟨A, cap, rfl, _⟩ := ht.form
    exact within_0 0 (.inl rfl) _ _ _ _ _ _ _ _ lb m w hm hm' hc (.inl rfl)
  | d + 1, hd, t, u, N, m, w, ht, hm, hm', hc => by
    by_cases h1 : m - 1 < 0
    · obtain ⟨A, cap, rfl, _⟩ := ht.form
      have e : withinF (d + 1) t m = (false, m - 1) := by unfold withinF; rw [if_pos h1]
      rw [e]
      exact within_0 _ (.inr ⟨by omega, by omega⟩) _ _ _ _ _ _ _ _ lb m w hm hm' hc (.inr h1)
    · cases hf : fmT t with
      | true =>
        have e : withinF (d + 1) t m = partsF (withinF d) t.l (m - 1) := by unfold withinF; rw [if_neg h1, if_pos hf]
        rw [e]
        exact within_t d (by omega) t u P N lb hP m w ht (by omega) hm' hc hf (fun t u M m w h1 h2 h3 h4 => within_any P lb hP d (by omega) t u M m w h1 h2 h3 h4)
      | false =>
        have e : withinF (d + 1) t m = (false, m - 1) := by unfold withinF; rw [if_neg h1, if_neg (by rw [hf]; decide)]
        rw [e]
        exact within_f d (by omega) t u P N lb m w ht (by omega) hm' hc hf

set_option maxRecDepth 100000 in
set_option maxHeartbeats 4000000 in
theorem emay_any (P : Nat → Prop) (N : Nat) (t : Ex) (u : Value) (w : World) (ht : Tr w P N t u) :
    Calls Tryz.prog 35 #[EVt t u] w fun e w' => e = .returned (.bool (mayT t)) ∧ Below w.heap.size w w' := by
  have HT := Lib.hid ht
  obtain ⟨A, cap, rfl, hn⟩ := ht.form
  clear ht
  have HQ : Hid (Tr ((w.alloc (.cells #[.string t.op, .int .i64 t.x.k, .int .i64 t.x.i, .string t.x.s, .string t.s, .slice A t.l.length cap] 30)).alloc (.cells #[.int .i64 60] 3)) (fun b => b < w.heap.size) N t (.slice A t.l.length cap)) :=
    HT.out.keep (fun b _ hl => by rw [Below.heap_alloc _ _ _ (by simp; omega), Below.heap_alloc _ _ _ hl]) (fun b _ hl => hl)
  obtain ⟨n, HN⟩ : ∃ n, Hid (t.l.length = n) := ⟨_, Lib.hid rfl⟩
  have HW : Hid (∀ W, Tr W (fun b => b < w.heap.size) N t (.slice A t.l.length cap) → Cnt W (w.heap.size + 1) 60 → Calls Tryz.prog 66 #[EVt t (.slice A t.l.length cap), .int .i64 12, .pointer (some ⟨w.heap.size + 1, 0, none⟩)] W (Wit W (w.heap.size + 1) (withinF 12 t 60))) :=
    fun W h1 h2 => within_any (fun b => b < w.heap.size) _ (by omega) 12 (by omega) t _ N 60 W h1 (by omega) (by omega) h2
  unfold EVt at HW ⊢
  rw [HN.out] at hn HW ⊢
  rw [HN.out] at HQ
  unfold maxLen at hn
  go_enter Tryz.func35, Tryz.ntmps35
  go_wp2_with (go_at_call 66; refine (HW.out _ HQ.out (Cnt.new (by simp) _)).mono ?_; rintro e w1 ⟨rfl, _, hg⟩)
  go_ret
  exact ⟨rfl, below_grow (((Below.refl _ _).alloc (Nat.le_refl _) _).alloc (by simp) _) hg (by simp) (by simp; omega)⟩
end Go.Proofs.YtlilnbcklplmfaaGreatDoor

/- The token with which a text begins. -/
namespace Go.Proofs.YtlilnbcklplmfaaGreatDoor
open Go.RowKit Go.Lib

theorem qN_some {s : ByteArray} {x r : List UInt8} (h1 : 1 ≤ s.size) (h : qscan (s.data.toList.drop 1) = some (x, r)) : qN s.size (s.data.toList.drop 1) = s.size - r.length ∧ r.length + 2 ≤ s.size := by
  obtain ⟨h2, _⟩ := qscan_some _ _ _ _ (Nat.le_refl _) h
  have h3 := congrArg List.length h2
  rw [List.length_drop, ← Lib.size_eq] at h3
  simp at h3
  unfold qN
  rw [h]
  exact ⟨rfl, by omega⟩
theorem take_list (s : ByteArray) (n : Nat) : (s.extract 0 n).data.toList = s.data.toList.take n := by
  simp [ByteArray.extract, ByteArray.data_append, ByteArray.copySlice]
/-- The octets of a text in quotes are a value's text just if the text is one that may be. -/
theorem quote_txt (x : List UInt8) (h : mayB 2 0 ⟨x.toArray⟩ = true) : txtO 2 0 ⟨x.toArray⟩ = 39 :: (dbl x ++ [39]) := by
  unfold txtO
  rw [h]
  simp
theorem quote_only {x : List UInt8} {k i : Int} {S : ByteArray} (hm : mayB k i S = true) (h : txtO k i S = 39 :: (dbl x ++ [39])) : mayB 2 0 ⟨x.toArray⟩ = true := by
  cases four k i S hm with
  | null hk hi hs ht => rw [ht] at h; simp at h
  | num hk hs ht =>
    rw [ht] at h
    exact absurd h (itoa_no (by decide) (.inl (by decide)))
  | text hk hi hz hc ht =>
    rw [ht] at h
    have e := dbl_inj _ _ (List.append_cancel_right (List.cons.inj h).2)
    rw [← e, hk.symm, ← hi]
    simpa using hm
  | no hk hi hs ht => rw [ht] at h; simp at h
  | yes hk hi hs ht => rw [ht] at h; simp at h
theorem quote_cut {s : ByteArray} {x r : List UInt8} (h1 : 1 ≤ s.size) (h0 : s[0] = 39) (h : qscan (s.data.toList.drop 1) = some (x, r)) : (s.extract 0 (s.size - r.length)).data.toList = 39 :: (dbl x ++ [39]) := by
  obtain ⟨h2, _⟩ := qscan_some _ _ _ _ (Nat.le_refl _) h
  have h3 : 0 < s.data.toList.length := by rw [← Lib.size_eq]; omega
  have h4 : s.data.toList = 39 :: (dbl x ++ 39 :: r) := by
    rw [← h2, ← h0]
    exact (List.drop_eq_getElem_cons h3)
  rw [take_list, Lib.size_eq, h4]
  have e : (39 :: (dbl x ++ 39 :: r) : List UInt8) = (39 :: (dbl x ++ [39])) ++ r := by simp
  rw [e, List.take_append_of_le_length (by simp; omega), List.take_of_length_le (by simp; omega)]

set_option maxRecDepth 100000 in
set_option maxHeartbeats 800000 in
theorem fs_yes (s : ByteArray) (w : World) (h1 : 1 ≤ s.size) (hs : s.size ≤ 100000) (h0 : s[0] = 39) (hl : LibE w) (n : Nat) (x r : List UInt8) (hq : qscan (s.data.toList.drop 1) = some (x, r)) (hm : mayB 2 0 ⟨x.toArray⟩ = true) (hn : n = s.size - r.length) :
    Calls Tryz.prog 79 #[.string s] w fun e w' => e = .returned (.tuple #[.agg #[.int .i64 3, .string ⟨x.toArray⟩], .int .i64 n]) ∧ Below w.heap.size w w' := by
  have HL := Lib.hid hl
  obtain ⟨e1, e2⟩ := qN_some h1 hq
  have HQ := Lib.hid (fun (W : World) => (show Calls Tryz.prog 131 #[.string s] W fun e w' => e = .returned (.int .i64 n) ∧ Below W.heap.size W w' by
    have := quoted_any s W h1 hs
    rw [e1, ← hn] at this
    exact this))
  have HP := Lib.hid (fun (W : World) (h : LibE W) => vparse_ok 2 0 ⟨x.toArray⟩ (s.extract 0 n) W hm (by rw [quote_txt x hm, hn, quote_cut h1 h0 hq]) in64_0 (by rw [ByteArray.size_extract]; omega) h)
  have hle : (n : Int) ≤ (s.size : Int) := by omega
  have hle2 : n ≤ s.size := by omega
  clear hq hm hn e1 e2 h0
  clear hl
  go_enter Tryz.func79, Tryz.ntmps79
  go_wp2_with (first
    | (go_at_call 131; refine (HQ.out _).mono ?_; rintro e w1 ⟨rfl, hb1⟩; have hc1 := (bcell hb1).1; have hf1 := (bcell hb1).2; have hy1 := hb1.size; (try simp at hy1); have hz1_0 : w.heap.size < w1.heap.size := (by omega); have hx1 : w.heap.size < w1.heap.size + 1 := (by omega); have hx2 : ¬ w.heap.size = w1.heap.size := (by omega))
    | (go_at_call 132; refine (HP.out _ (HL.out.keep (by repeat (first | (with_reducible exact Below.refl _ _) | ((with_reducible refine cSet3 ?_ ?_ _ _ _); (· ((try simp) <;> omega))) | (with_reducible refine Below.drew ?_) | ((with_reducible refine cAlloc ?_ ?_ _); (· ((try simp) <;> omega))) | ((with_reducible refine cOn (by assumption) ?_ ?_); (· ((try simp) <;> omega))))) (Nat.le_refl _))).mono ?_; rintro e w2 ⟨rfl, hb2⟩; have hc2 := (bcell hb2).1; have hf2 := (bcell hb2).2; have hy2 := hb2.size; (try simp at hy2); have hz2_0 : w.heap.size < w2.heap.size := (by omega)))
  refine bodyPost_ret (v := .tuple #[.agg #[.int .i64 3, .string ⟨x.toArray⟩], .int .i64 n]) ?_ rfl ⟨rfl, ?_⟩
  · (simp [results, Tryz.results79, go_sem, *]; done)
  repeat (first | (with_reducible exact Below.refl _ _) | ((with_reducible refine cSet1 ?_ ?_ _ _); (· ((try simp) <;> omega))) | (with_reducible refine Below.drew ?_) | ((with_reducible refine cAlloc ?_ ?_ _); (· ((try simp) <;> omega))) | ((with_reducible refine cOn (by assumption) ?_ ?_); (· ((try simp) <;> omega))))

set_option maxRecDepth 100000 in
set_option maxHeartbeats 800000 in
theorem fs_bad (s : ByteArray) (w : World) (h1 : 1 ≤ s.size) (hs : s.size ≤ 100000) (h0 : s[0] = 39) (hl : LibE w) (n : Nat) (hn : n = qN s.size (s.data.toList.drop 1)) (hle2 : n ≤ s.size) (hno : ∀ k i S, In64 i → mayB k i S = true → txtO k i S ≠ (s.extract 0 n).data.toList) :
    Calls Tryz.prog 79 #[.string s] w fun e w' => e = .returned (.tuple #[.agg #[.int .i64 0, .string ⟨#[]⟩], .int .i64 0]) ∧ Below w.heap.size w w' := by
  have HL := Lib.hid hl
  have HQ := Lib.hid (fun (W : World) => (show Calls Tryz.prog 131 #[.string s] W fun e w' => e = .returned (.int .i64 n) ∧ Below W.heap.size W w' by
    have := quoted_any s W h1 hs
    rw [← hn] at this
    exact this))
  have HP := Lib.hid (fun (W : World) (h : LibE W) => vparse_no (s.extract 0 n) W hno (by rw [ByteArray.size_extract]; omega) h)
  have hle : (n : Int) ≤ (s.size : Int) := by omega
  clear hno hn h0
  clear hl
  go_enter Tryz.func79, Tryz.ntmps79
  go_wp2_with (first
    | (go_at_call 131; refine (HQ.out _).mono ?_; rintro e w1 ⟨rfl, hb1⟩; have hc1 := (bcell hb1).1; have hf1 := (bcell hb1).2; have hy1 := hb1.size; (try simp at hy1); have hz1_0 : w.heap.size < w1.heap.size := (by omega); have hx1 : w.heap.size < w1.heap.size + 1 := (by omega); have hx2 : ¬ w.heap.size = w1.heap.size := (by omega))
    | (go_at_call 132; refine (HP.out _ (HL.out.keep (by repeat (first | (with_reducible exact Below.refl _ _) | ((with_reducible refine cSet3 ?_ ?_ _ _ _); (· ((try simp) <;> omega))) | (with_reducible refine Below.drew ?_) | ((with_reducible refine cAlloc ?_ ?_ _); (· ((try simp) <;> omega))) | ((with_reducible refine cOn (by assumption) ?_ ?_); (· ((try simp) <;> omega))))) (Nat.le_refl _))).mono ?_; rintro e w2 ⟨rfl, hb2⟩; have hc2 := (bcell hb2).1; have hf2 := (bcell hb2).2; have hy2 := hb2.size; (try simp at hy2); have hz2_0 : w.heap.size < w2.heap.size := (by omega)))
  refine bodyPost_ret (v := .tuple #[.agg #[.int .i64 0, .string ⟨#[]⟩], .int .i64 0]) ?_ rfl ⟨rfl, ?_⟩
  · (simp [results, Tryz.results79, go_sem, *]; done)
  repeat (first | (with_reducible exact Below.refl _ _) | ((with_reducible refine cSet1 ?_ ?_ _ _); (· ((try simp) <;> omega))) | (with_reducible refine Below.drew ?_) | ((with_reducible refine cAlloc ?_ ?_ _); (· ((try simp) <;> omega))) | ((with_reducible refine cOn (by assumption) ?_ ?_); (· ((try simp) <;> omega))))

theorem no_text_nil : ∀ k i S, In64 i → mayB k i S = true → txtO k i S ≠ [] := by
  intro k i S hi hm e
  cases four k i S hm with
  | null hk hi hs ht => rw [ht] at e; cases e
  | num hk hs ht => obtain ⟨c, l, e1, _⟩ := itoa_head i; rw [ht, e1] at e; cases e
  | text hk hi hz hc ht => rw [ht] at e; cases e
  | no hk hi hs ht => rw [ht] at e; cases e
  | yes hk hi hs ht => rw [ht] at e; cases e
/-- What the document of tokens says of a text's beginning, as the program hands it on. -/
def tkV (t : Option (Tk × Nat)) : Value := match t with
  | none => .tuple #[.agg #[.int .i64 0, .string ⟨#[]⟩], .int .i64 0]
  | some (t, n) => .tuple #[.agg #[.int .i64 t.k, .string ⟨t.s.toArray⟩], .int .i64 n]
theorem list_head {s : ByteArray} (h : 0 < s.size) : ∃ r, s.data.toList = s[0] :: r ∧ r = s.data.toList.drop 1 := by
  have h3 : 0 < s.data.toList.length := by rw [← Lib.size_eq]; omega
  exact ⟨_, (List.drop_eq_getElem_cons h3), rfl⟩
theorem firstString_any (s : ByteArray) (w : World) (h1 : 1 ≤ s.size) (hs : s.size ≤ 100000) (h0 : s[0] = 39) (hl : LibE w) :
    Calls Tryz.prog 79 #[.string s] w fun e w' => e = .returned (tkV (fst s.data.toList)) ∧ Below w.heap.size w w' := by
  obtain ⟨r0, e0, er⟩ := list_head h1
  rw [h0] at e0
  have e1 : fst s.data.toList = match qscan (s.data.toList.drop 1) with
      | none => none
      | some (x, t) => if mayB 2 0 ⟨x.toArray⟩ then some (⟨3, x⟩, s.size - t.length) else none := by
    rw [Lib.size_eq, e0]
    simp [fst]
    cases qscan r0 <;> rfl
  cases hq : qscan (s.data.toList.drop 1) with
  | none =>
    rw [hq] at e1
    rw [e1]
    have hz : qN s.size (s.data.toList.drop 1) = 0 := by unfold qN; rw [hq]
    exact fs_bad s w h1 hs h0 hl 0 hz.symm (by omega) (by rw [take_list]; simpa using no_text_nil)
  | some y =>
    obtain ⟨x, r⟩ := y
    rw [hq] at e1
    simp only at e1
    cases hm : mayB 2 0 ⟨x.toArray⟩ with
    | true =>
      rw [hm] at e1
      rw [e1]
      exact fs_yes s w h1 hs h0 hl _ x r hq hm rfl
    | false =>
      rw [hm] at e1
      rw [e1]
      obtain ⟨q1, q2⟩ := qN_some h1 hq
      refine fs_bad s w h1 hs h0 hl (s.size - r.length) q1.symm (by omega) fun k i S hi hmm e => ?_
      rw [quote_cut h1 h0 hq] at e
      rw [quote_only hmm e] at hm
      cases hm

end Go.Proofs.YtlilnbcklplmfaaGreatDoor

/- The token with which a text begins: first. -/
namespace Go.Proofs.YtlilnbcklplmfaaGreatDoor
open Go.RowKit Go.Lib

/-- The result's box, while the kinds are gone through. -/
structure W2 (w W : World) : Prop where
  below : Below w.heap.size w W
  r0 : W.cell? ⟨w.heap.size, 0, none⟩ = some (.int .i64 0)
  r1 : W.cell? ⟨w.heap.size, 1, none⟩ = some (.string ⟨#[]⟩)
  f : ∀ o, W.frozen? ⟨w.heap.size, o, none⟩ = false
theorem W2.lt {w W : World} (h : W2 w W) : w.heap.size < W.heap.size := World.block_lt_of_cell? _ _ h.r0
theorem W2.later {w W W' : World} (h : W2 w W) (hb : Below W.heap.size W W') : W2 w W' :=
  ⟨h.below.trans (hb.mono h.below.size), (hb.cell (p := ⟨_, _, none⟩) h.lt).trans h.r0, (hb.cell (p := ⟨_, _, none⟩) h.lt).trans h.r1, fun o => (hb.frozen (p := ⟨_, o, none⟩) h.lt).trans (h.f o)⟩
theorem W2.alloc {w W : World} (h : W2 w W) (o : Obj) : W2 w (W.alloc o) := h.later ((Below.refl _ _).alloc (Nat.le_refl _) o)
theorem W2.start (w : World) (t : TypeId) : W2 w (w.alloc (.cells #[.int .i64 0, .string ⟨#[]⟩] t)) :=
  ⟨(Below.refl _ _).alloc (Nat.le_refl _) _, by simp [go_sem], by simp [go_sem], fun o => by simp [go_sem]⟩
theorem W2.later' {w W W1 W' : World} {o : Obj} (h : W2 w W) (e : W1 = W.alloc o) (hb : Below W1.heap.size W1 W') : W2 w W' := (h.alloc o).later (e ▸ hb)

theorem kix0 (W : World) : (Instr.index 121 (.agg #[.int .i64 1, .int .i64 16, .func (.func 174) #[] #[], .func (.func 175) #[] #[], .int .i64 2, .int .i64 19, .func (.func 176) #[] #[], .func (.func 176) #[] #[], .int .i64 4, .int .i64 1, .func (.func 177) #[] #[], .func (.func 178) #[] #[]]) (.int .i64 0)).run Tryz.prog W = .ok (.agg #[.int .i64 1, .int .i64 16, .func (.func 174) #[] #[], .func (.func 175) #[] #[]]) W := by kernel_rfl
theorem kix1 (W : World) : (Instr.index 121 (.agg #[.int .i64 1, .int .i64 16, .func (.func 174) #[] #[], .func (.func 175) #[] #[], .int .i64 2, .int .i64 19, .func (.func 176) #[] #[], .func (.func 176) #[] #[], .int .i64 4, .int .i64 1, .func (.func 177) #[] #[], .func (.func 178) #[] #[]]) (.int .i64 1)).run Tryz.prog W = .ok (.agg #[.int .i64 2, .int .i64 19, .func (.func 176) #[] #[], .func (.func 176) #[] #[]]) W := by kernel_rfl
theorem kix2 (W : World) : (Instr.index 121 (.agg #[.int .i64 1, .int .i64 16, .func (.func 174) #[] #[], .func (.func 175) #[] #[], .int .i64 2, .int .i64 19, .func (.func 176) #[] #[], .func (.func 176) #[] #[], .int .i64 4, .int .i64 1, .func (.func 177) #[] #[], .func (.func 178) #[] #[]]) (.int .i64 2)).run Tryz.prog W = .ok (.agg #[.int .i64 4, .int .i64 1, .func (.func 177) #[] #[], .func (.func 178) #[] #[]]) W := by kernel_rfl

set_option maxRecDepth 100000 in
set_option maxHeartbeats 800000 in
theorem first_quote (s : ByteArray) (w : World) (h1 : 1 ≤ s.size) (hs : s.size ≤ 100000) (h0 : s[0] = 39) (hl : LibE w) (k : Int) (S : ByteArray) (n : Int) (ht : tkV (fst s.data.toList) = .tuple #[.agg #[.int .i64 k, .string S], .int .i64 n]) :
    Calls Tryz.prog 39 #[.string s] w fun e w' => e = .returned (tkV (fst s.data.toList)) ∧ Below w.heap.size w w' := by
  have HF := Lib.hid (fun (W : World) (h : LibE W) => firstString_any s W h1 hs h0 h)
  rw [ht] at HF ⊢
  have HL := Lib.hid hl
  have h39 : (s[0].toNat : Int) = 39 := by rw [h0]; rfl
  clear hl ht h0
  go_enter Tryz.func39, Tryz.ntmps39
  go_wp2_with (first
    | (go_at_call 79; refine (HF.out _ (HL.out.keep (by repeat (first | (with_reducible exact Below.refl _ _) | ((with_reducible refine cSet3 ?_ ?_ _ _ _); (· ((try simp) <;> omega))) | (with_reducible refine Below.drew ?_) | ((with_reducible refine cAlloc ?_ ?_ _); (· ((try simp) <;> omega))) | ((with_reducible refine cOn (by assumption) ?_ ?_); (· ((try simp) <;> omega))))) (Nat.le_refl _))).mono ?_; rintro e w1 ⟨rfl, hb1⟩; have hc1 := (bcell hb1).1; have hf1 := (bcell hb1).2; have hy1 := hb1.size; (try simp at hy1); have hz1_0 : w.heap.size < w1.heap.size := (by omega)))
  refine bodyPost_ret (v := .tuple #[.agg #[.int .i64 k, .string S], .int .i64 n]) ?_ rfl ⟨rfl, ?_⟩
  · (simp [results, Tryz.results39, go_sem, *]; done)
  repeat (first | (with_reducible exact Below.refl _ _) | ((with_reducible refine cSet1 ?_ ?_ _ _); (· ((try simp) <;> omega))) | (with_reducible refine Below.drew ?_) | ((with_reducible refine cAlloc ?_ ?_ _); (· ((try simp) <;> omega))) | ((with_reducible refine cOn (by assumption) ?_ ?_); (· ((try simp) <;> omega))))

set_option maxRecDepth 100000 in
set_option maxHeartbeats 3200000 in
theorem first_0 (s : ByteArray) (w : World) (hs : s.size ≤ 100000) (hl : 0 < s.size) (h39 : ¬ (s[0].toNat : Int) = 39) (n0 : Nat) (h0 : n0 ≤ s.size) (t0 : ∀ W, Calls Tryz.prog 81 #[.agg #[.int .i64 1, .int .i64 16, .func (.func 174) #[] #[], .func (.func 175) #[] #[]], .string s] W fun e w' => e = .returned (.int .i64 n0) ∧ Below W.heap.size W w') (m0 : ∀ W, Calls Tryz.prog 82 #[.agg #[.int .i64 1, .int .i64 16, .func (.func 174) #[] #[], .func (.func 175) #[] #[]], .string (s.extract 0 n0)] W fun e w' => e = .returned (.bool true) ∧ Below W.heap.size W w') :
    Calls Tryz.prog 39 #[.string s] w fun e w' => e = .returned (.tuple #[.agg #[.int .i64 1, .string (s.extract 0 n0)], .int .i64 n0]) ∧ Below w.heap.size w w' := by
  have HT0 := Lib.hid t0
  have HM0 := Lib.hid m0
  have b0 : 0 ≤ (n0 : Int) ∧ (n0 : Int) ≤ (s.size : Int) := by omega
  clear t0 m0
  go_enter Tryz.func39, Tryz.ntmps39
  go_wp2_with (go_at_call 80; refine (kinds_any _).mono ?_; rintro e w1 ⟨rfl, hb1⟩; have HW0 := Lib.hid ((W2.start w _).later hb1); clear hb1)
  go_loopw [15] (fun i wr => ∃ k : Nat, k ≤ 0 ∧ i = .int .i64 k ∧ W2 w wr) (fun i _ => 3 - (intOf i).toNat)
  case atStart => exact ⟨0, by omega, rfl, HW0.out⟩
  case round =>
    obtain ⟨k, hk, rfl, hW⟩ := hrel
    have HW := Lib.hid hW
    clear hW HW0
    obtain ⟨wo, hwo⟩ : ∃ wo : World, wo = wr := ⟨_, rfl⟩
    rw [← hwo] at HW ⊢
    clear hwo
    by_cases hk0 : k = 0
    · subst hk0
      have r0 := HW.out.r0
      have r1 := HW.out.r1
      have rf := HW.out.f
      have rl := HW.out.lt
      have ix := kix0
      go_wp2_with (go_at_call 81; refine (HT0.out _).mono ?_; rintro e w1 ⟨rfl, hb1⟩; have HW1 := Lib.hid (HW.out.later' rfl hb1); have q0 : w1.cell? ⟨wo.heap.size, 0, none⟩ = some (.int .i64 1) := (hb1.cell (p := ⟨wo.heap.size, 0, none⟩) (by simp)).trans (by simp [go_sem]); have q1 : w1.cell? ⟨wo.heap.size, 1, none⟩ = some (.int .i64 16) := (hb1.cell (p := ⟨wo.heap.size, 1, none⟩) (by simp)).trans (by simp [go_sem]); have q2 : w1.cell? ⟨wo.heap.size, 2, none⟩ = some (.func (.func 174) #[] #[]) := (hb1.cell (p := ⟨wo.heap.size, 2, none⟩) (by simp)).trans (by simp [go_sem]); have q3 : w1.cell? ⟨wo.heap.size, 3, none⟩ = some (.func (.func 175) #[] #[]) := (hb1.cell (p := ⟨wo.heap.size, 3, none⟩) (by simp)).trans (by simp [go_sem]); have hwz : wo.heap.size < w1.heap.size := (by have := hb1.size; simp at this; omega); clear hb1 r0 r1 rf rl)
      refine detL_begin [.val (.agg #[.int .i64 1, .int .i64 16, .func (.func 174) #[] #[], .func (.func 175) #[] #[]]), .val (.string s), .val (.int .i64 n0), .val (.string (s.extract 0 n0)), .val (.bool true)] 5 (by kernel_rfl) ?_
      refine detL_val (by kernel_rfl) (yields_of rfl fun w1 hb1 => ?_) ?_
      · have hc1 := bcellD hb1
        have d0 := (hc1 wo.heap.size 0 hwz).trans q0; have d1 := (hc1 wo.heap.size 1 hwz).trans q1; have d2 := (hc1 wo.heap.size 2 hwz).trans q2; have d3 := (hc1 wo.heap.size 3 hwz).trans q3
        clear hb1
        go_simp
        exact Det1_same
      simp only [Act.put, List.setIfInBounds_toArray, List.set_cons_zero, List.set_cons_succ]
      refine detL_val (by kernel_rfl) (yields_of rfl fun w1 hb1 => ?_) ?_
      · have hc1 := bcellD hb1
        clear hb1
        go_simp
        exact Det1_same
      simp only [Act.put, List.setIfInBounds_toArray, List.set_cons_zero, List.set_cons_succ]
      refine detL_val (by kernel_rfl) (yields_of rfl fun w1 hb1 => ?_) ?_
      · have hc1 := bcellD hb1
        clear hb1
        go_simp
        exact Det1_same
      simp only [Act.put, List.setIfInBounds_toArray, List.set_cons_zero, List.set_cons_succ]
      refine detL_val (by kernel_rfl) (yields_of rfl fun w1 hb1 => ?_) ?_
      · have hc1 := bcellD hb1
        clear hb1
        go_simp
        exact Det1_same
      simp only [Act.put, List.setIfInBounds_toArray, List.set_cons_zero, List.set_cons_succ]
      refine detL_val (by kernel_rfl) (yields_of rfl fun w1 hb1 => ?_) ?_
      · have hc1 := bcellD hb1
        clear hb1
        go_simp
        exact Det1_enter (HM0.out _)
      simp only [Act.put, List.setIfInBounds_toArray, List.set_cons_zero, List.set_cons_succ]
      refine detL_done (by kernel_rfl) fun w2 hw2 => ?_
      have HW2 := Lib.hid (HW1.out.later ((Below.refl _ _).drew.trans hw2.below))
      have p0 : w2.cell? ⟨wo.heap.size, 0, none⟩ = some (.int .i64 1) := (hw2.below.cell (p := ⟨wo.heap.size, 0, none⟩) hwz).trans q0
      clear hw2 q0 q1 q2 q3
      have r0 := HW2.out.r0
      have r1 := HW2.out.r1
      have rf := HW2.out.f
      have rl := HW2.out.lt
      go_wp2
      go_region
      all_goals
        go_wp2
        refine bodyPost_ret (v := .tuple #[.agg #[.int .i64 1, .string (s.extract 0 n0)], .int .i64 n0]) ?_ rfl ⟨rfl, ?_⟩
        · (simp [results, Tryz.results39, go_sem, *]; done)
        · have hb1 := HW2.out.below
          repeat (first | (with_reducible exact Below.refl _ _) | ((with_reducible refine cSet1 ?_ ?_ _ _); (· ((try simp) <;> omega))) | (with_reducible refine Below.drew ?_) | ((with_reducible refine cAlloc ?_ ?_ _); (· ((try simp) <;> omega))) | ((with_reducible refine cOn (by assumption) ?_ ?_); (· ((try simp) <;> omega))))
    · skip
      omega

set_option maxRecDepth 100000 in
set_option maxHeartbeats 3200000 in
theorem first_1 (s : ByteArray) (w : World) (hs : s.size ≤ 100000) (hl : 0 < s.size) (h39 : ¬ (s[0].toNat : Int) = 39) (n0 : Nat) (h0 : n0 ≤ s.size) (t0 : ∀ W, Calls Tryz.prog 81 #[.agg #[.int .i64 1, .int .i64 16, .func (.func 174) #[] #[], .func (.func 175) #[] #[]], .string s] W fun e w' => e = .returned (.int .i64 n0) ∧ Below W.heap.size W w') (m0 : ∀ W, Calls Tryz.prog 82 #[.agg #[.int .i64 1, .int .i64 16, .func (.func 174) #[] #[], .func (.func 175) #[] #[]], .string (s.extract 0 n0)] W fun e w' => e = .returned (.bool false) ∧ Below W.heap.size W w') (n1 : Nat) (h1 : n1 ≤ s.size) (t1 : ∀ W, Calls Tryz.prog 81 #[.agg #[.int .i64 2, .int .i64 19, .func (.func 176) #[] #[], .func (.func 176) #[] #[]], .string s] W fun e w' => e = .returned (.int .i64 n1) ∧ Below W.heap.size W w') (m1 : ∀ W, Calls Tryz.prog 82 #[.agg #[.int .i64 2, .int .i64 19, .func (.func 176) #[] #[], .func (.func 176) #[] #[]], .string (s.extract 0 n1)] W fun e w' => e = .returned (.bool true) ∧ Below W.heap.size W w') :
    Calls Tryz.prog 39 #[.string s] w fun e w' => e = .returned (.tuple #[.agg #[.int .i64 2, .string (s.extract 0 n1)], .int .i64 n1]) ∧ Below w.heap.size w w' := by
  have HT0 := Lib.hid t0
  have HM0 := Lib.hid m0
  have b0 : 0 ≤ (n0 : Int) ∧ (n0 : Int) ≤ (s.size : Int) := by omega
  have HT1 := Lib.hid t1
  have HM1 := Lib.hid m1
  have b1 : 0 ≤ (n1 : Int) ∧ (n1 : Int) ≤ (s.size : Int) := by omega
  clear t0 m0 t1 m1
  go_enter Tryz.func39, Tryz.ntmps39
  go_wp2_with (go_at_call 80; refine (kinds_any _).mono ?_; rintro e w1 ⟨rfl, hb1⟩; have HW0 := Lib.hid ((W2.start w _).later hb1); clear hb1)
  go_loopw [15] (fun i wr => ∃ k : Nat, k ≤ 1 ∧ i = .int .i64 k ∧ W2 w wr) (fun i _ => 3 - (intOf i).toNat)
  case atStart => exact ⟨0, by omega, rfl, HW0.out⟩
  case round =>
    obtain ⟨k, hk, rfl, hW⟩ := hrel
    have HW := Lib.hid hW
    clear hW HW0
    obtain ⟨wo, hwo⟩ : ∃ wo : World, wo = wr := ⟨_, rfl⟩
    rw [← hwo] at HW ⊢
    clear hwo
    by_cases hk0 : k = 0
    · subst hk0
      have r0 := HW.out.r0
      have r1 := HW.out.r1
      have rf := HW.out.f
      have rl := HW.out.lt
      have ix := kix0
      go_wp2_with (go_at_call 81; refine (HT0.out _).mono ?_; rintro e w1 ⟨rfl, hb1⟩; have HW1 := Lib.hid (HW.out.later' rfl hb1); have q0 : w1.cell? ⟨wo.heap.size, 0, none⟩ = some (.int .i64 1) := (hb1.cell (p := ⟨wo.heap.size, 0, none⟩) (by simp)).trans (by simp [go_sem]); have q1 : w1.cell? ⟨wo.heap.size, 1, none⟩ = some (.int .i64 16) := (hb1.cell (p := ⟨wo.heap.size, 1, none⟩) (by simp)).trans (by simp [go_sem]); have q2 : w1.cell? ⟨wo.heap.size, 2, none⟩ = some (.func (.func 174) #[] #[]) := (hb1.cell (p := ⟨wo.heap.size, 2, none⟩) (by simp)).trans (by simp [go_sem]); have q3 : w1.cell? ⟨wo.heap.size, 3, none⟩ = some (.func (.func 175) #[] #[]) := (hb1.cell (p := ⟨wo.heap.size, 3, none⟩) (by simp)).trans (by simp [go_sem]); have hwz : wo.heap.size < w1.heap.size := (by have := hb1.size; simp at this; omega); clear hb1 r0 r1 rf rl)
      refine detL_begin [.val (.agg #[.int .i64 1, .int .i64 16, .func (.func 174) #[] #[], .func (.func 175) #[] #[]]), .val (.string s), .val (.int .i64 n0), .val (.string (s.extract 0 n0)), .val (.bool false)] 5 (by kernel_rfl) ?_
      refine detL_val (by kernel_rfl) (yields_of rfl fun w1 hb1 => ?_) ?_
      · have hc1 := bcellD hb1
        have d0 := (hc1 wo.heap.size 0 hwz).trans q0; have d1 := (hc1 wo.heap.size 1 hwz).trans q1; have d2 := (hc1 wo.heap.size 2 hwz).trans q2; have d3 := (hc1 wo.heap.size 3 hwz).trans q3
        clear hb1
        go_simp
        exact Det1_same
      simp only [Act.put, List.setIfInBounds_toArray, List.set_cons_zero, List.set_cons_succ]
      refine detL_val (by kernel_rfl) (yields_of rfl fun w1 hb1 => ?_) ?_
      · have hc1 := bcellD hb1
        clear hb1
        go_simp
        exact Det1_same
      simp only [Act.put, List.setIfInBounds_toArray, List.set_cons_zero, List.set_cons_succ]
      refine detL_val (by kernel_rfl) (yields_of rfl fun w1 hb1 => ?_) ?_
      · have hc1 := bcellD hb1
        clear hb1
        go_simp
        exact Det1_same
      simp only [Act.put, List.setIfInBounds_toArray, List.set_cons_zero, List.set_cons_succ]
      refine detL_val (by kernel_rfl) (yields_of rfl fun w1 hb1 => ?_) ?_
      · have hc1 := bcellD hb1
        clear hb1
        go_simp
        exact Det1_same
      simp only [Act.put, List.setIfInBounds_toArray, List.set_cons_zero, List.set_cons_succ]
      refine detL_val (by kernel_rfl) (yields_of rfl fun w1 hb1 => ?_) ?_
      · have hc1 := bcellD hb1
        clear hb1
        go_simp
        exact Det1_enter (HM0.out _)
      simp only [Act.put, List.setIfInBounds_toArray, List.set_cons_zero, List.set_cons_succ]
      refine detL_done (by kernel_rfl) fun w2 hw2 => ?_
      have HW2 := Lib.hid (HW1.out.later ((Below.refl _ _).drew.trans hw2.below))
      clear hw2 q0 q1 q2 q3
      go_wp2
      go_roundw
      case rel => exact ⟨0 + 1, by omega, by go_num, HW2.out⟩
      case measure => simp [intOf]; try omega
    · skip
      by_cases hk1 : k = 1
      · subst hk1
        have r0 := HW.out.r0
        have r1 := HW.out.r1
        have rf := HW.out.f
        have rl := HW.out.lt
        have ix := kix1
        go_wp2_with (go_at_call 81; refine (HT1.out _).mono ?_; rintro e w1 ⟨rfl, hb1⟩; have HW1 := Lib.hid (HW.out.later' rfl hb1); have q0 : w1.cell? ⟨wo.heap.size, 0, none⟩ = some (.int .i64 2) := (hb1.cell (p := ⟨wo.heap.size, 0, none⟩) (by simp)).trans (by simp [go_sem]); have q1 : w1.cell? ⟨wo.heap.size, 1, none⟩ = some (.int .i64 19) := (hb1.cell (p := ⟨wo.heap.size, 1, none⟩) (by simp)).trans (by simp [go_sem]); have q2 : w1.cell? ⟨wo.heap.size, 2, none⟩ = some (.func (.func 176) #[] #[]) := (hb1.cell (p := ⟨wo.heap.size, 2, none⟩) (by simp)).trans (by simp [go_sem]); have q3 : w1.cell? ⟨wo.heap.size, 3, none⟩ = some (.func (.func 176) #[] #[]) := (hb1.cell (p := ⟨wo.heap.size, 3, none⟩) (by simp)).trans (by simp [go_sem]); have hwz : wo.heap.size < w1.heap.size := (by have := hb1.size; simp at this; omega); clear hb1 r0 r1 rf rl)
        refine detL_begin [.val (.agg #[.int .i64 2, .int .i64 19, .func (.func 176) #[] #[], .func (.func 176) #[] #[]]), .val (.string s), .val (.int .i64 n1), .val (.string (s.extract 0 n1)), .val (.bool true)] 5 (by kernel_rfl) ?_
        refine detL_val (by kernel_rfl) (yields_of rfl fun w1 hb1 => ?_) ?_
        · have hc1 := bcellD hb1
          have d0 := (hc1 wo.heap.size 0 hwz).trans q0; have d1 := (hc1 wo.heap.size 1 hwz).trans q1; have d2 := (hc1 wo.heap.size 2 hwz).trans q2; have d3 := (hc1 wo.heap.size 3 hwz).trans q3
          clear hb1
          go_simp
          exact Det1_same
        simp only [Act.put, List.setIfInBounds_toArray, List.set_cons_zero, List.set_cons_succ]
        refine detL_val (by kernel_rfl) (yields_of rfl fun w1 hb1 => ?_) ?_
        · have hc1 := bcellD hb1
          clear hb1
          go_simp
          exact Det1_same
        simp only [Act.put, List.setIfInBounds_toArray, List.set_cons_zero, List.set_cons_succ]
        refine detL_val (by kernel_rfl) (yields_of rfl fun w1 hb1 => ?_) ?_
        · have hc1 := bcellD hb1
          clear hb1
          go_simp
          exact Det1_same
        simp only [Act.put, List.setIfInBounds_toArray, List.set_cons_zero, List.set_cons_succ]
        refine detL_val (by kernel_rfl) (yields_of rfl fun w1 hb1 => ?_) ?_
        · have hc1 := bcellD hb1
          clear hb1
          go_simp
          exact Det1_same
        simp only [Act.put, List.setIfInBounds_toArray, List.set_cons_zero, List.set_cons_succ]
        refine detL_val (by kernel_rfl) (yields_of rfl fun w1 hb1 => ?_) ?_
        · have hc1 := bcellD hb1
          clear hb1
          go_simp
          exact Det1_enter (HM1.out _)
        simp only [Act.put, List.setIfInBounds_toArray, List.set_cons_zero, List.set_cons_succ]
        refine detL_done (by kernel_rfl) fun w2 hw2 => ?_
        have HW2 := Lib.hid (HW1.out.later ((Below.refl _ _).drew.trans hw2.below))
        have p0 : w2.cell? ⟨wo.heap.size, 0, none⟩ = some (.int .i64 2) := (hw2.below.cell (p := ⟨wo.heap.size, 0, none⟩) hwz).trans q0
        clear hw2 q0 q1 q2 q3
        have r0 := HW2.out.r0
        have r1 := HW2.out.r1
        have rf := HW2.out.f
        have rl := HW2.out.lt
        go_wp2
        go_region
        all_goals
          go_wp2
          refine bodyPost_ret (v := .tuple #[.agg #[.int .i64 2, .string (s.extract 0 n1)], .int .i64 n1]) ?_ rfl ⟨rfl, ?_⟩
          · (simp [results, Tryz.results39, go_sem, *]; done)
          · have hb1 := HW2.out.below
            repeat (first | (with_reducible exact Below.refl _ _) | ((with_reducible refine cSet1 ?_ ?_ _ _); (· ((try simp) <;> omega))) | (with_reducible refine Below.drew ?_) | ((with_reducible refine cAlloc ?_ ?_ _); (· ((try simp) <;> omega))) | ((with_reducible refine cOn (by assumption) ?_ ?_); (· ((try simp) <;> omega))))
      · skip
        omega

set_option maxRecDepth 100000 in
set_option maxHeartbeats 3200000 in
theorem first_2 (s : ByteArray) (w : World) (hs : s.size ≤ 100000) (hl : 0 < s.size) (h39 : ¬ (s[0].toNat : Int) = 39) (n0 : Nat) (h0 : n0 ≤ s.size) (t0 : ∀ W, Calls Tryz.prog 81 #[.agg #[.int .i64 1, .int .i64 16, .func (.func 174) #[] #[], .func (.func 175) #[] #[]], .string s] W fun e w' => e = .returned (.int .i64 n0) ∧ Below W.heap.size W w') (m0 : ∀ W, Calls Tryz.prog 82 #[.agg #[.int .i64 1, .int .i64 16, .func (.func 174) #[] #[], .func (.func 175) #[] #[]], .string (s.extract 0 n0)] W fun e w' => e = .returned (.bool false) ∧ Below W.heap.size W w') (n1 : Nat) (h1 : n1 ≤ s.size) (t1 : ∀ W, Calls Tryz.prog 81 #[.agg #[.int .i64 2, .int .i64 19, .func (.func 176) #[] #[], .func (.func 176) #[] #[]], .string s] W fun e w' => e = .returned (.int .i64 n1) ∧ Below W.heap.size W w') (m1 : ∀ W, Calls Tryz.prog 82 #[.agg #[.int .i64 2, .int .i64 19, .func (.func 176) #[] #[], .func (.func 176) #[] #[]], .string (s.extract 0 n1)] W fun e w' => e = .returned (.bool false) ∧ Below W.heap.size W w') (n2 : Nat) (h2 : n2 ≤ s.size) (t2 : ∀ W, Calls Tryz.prog 81 #[.agg #[.int .i64 4, .int .i64 1, .func (.func 177) #[] #[], .func (.func 178) #[] #[]], .string s] W fun e w' => e = .returned (.int .i64 n2) ∧ Below W.heap.size W w') (m2 : ∀ W, Calls Tryz.prog 82 #[.agg #[.int .i64 4, .int .i64 1, .func (.func 177) #[] #[], .func (.func 178) #[] #[]], .string (s.extract 0 n2)] W fun e w' => e = .returned (.bool true) ∧ Below W.heap.size W w') :
    Calls Tryz.prog 39 #[.string s] w fun e w' => e = .returned (.tuple #[.agg #[.int .i64 4, .string (s.extract 0 n2)], .int .i64 n2]) ∧ Below w.heap.size w w' := by
  have HT0 := Lib.hid t0
  have HM0 := Lib.hid m0
  have b0 : 0 ≤ (n0 : Int) ∧ (n0 : Int) ≤ (s.size : Int) := by omega
  have HT1 := Lib.hid t1
  have HM1 := Lib.hid m1
  have b1 : 0 ≤ (n1 : Int) ∧ (n1 : Int) ≤ (s.size : Int) := by omega
  have HT2 := Lib.hid t2
  have HM2 := Lib.hid m2
  have b2 : 0 ≤ (n2 : Int) ∧ (n2 : Int) ≤ (s.size : Int) := by omega
  clear t0 m0 t1 m1 t2 m2
  go_enter Tryz.func39, Tryz.ntmps39
  go_wp2_with (go_at_call 80; refine (kinds_any _).mono ?_; rintro e w1 ⟨rfl, hb1⟩; have HW0 := Lib.hid ((W2.start w _).later hb1); clear hb1)
  go_loopw [15] (fun i wr => ∃ k : Nat, k ≤ 2 ∧ i = .int .i64 k ∧ W2 w wr) (fun i _ => 3 - (intOf i).toNat)
  case atStart => exact ⟨0, by omega, rfl, HW0.out⟩
  case round =>
    obtain ⟨k, hk, rfl, hW⟩ := hrel
    have HW := Lib.hid hW
    clear hW HW0
    obtain ⟨wo, hwo⟩ : ∃ wo : World, wo = wr := ⟨_, rfl⟩
    rw [← hwo] at HW ⊢
    clear hwo
    by_cases hk0 : k = 0
    · subst hk0
      have r0 := HW.out.r0
      have r1 := HW.out.r1
      have rf := HW.out.f
      have rl := HW.out.lt
      have ix := kix0
      go_wp2_with (go_at_call 81; refine (HT0.out _).mono ?_; rintro e w1 ⟨rfl, hb1⟩; have HW1 := Lib.hid (HW.out.later' rfl hb1); have q0 : w1.cell? ⟨wo.heap.size, 0, none⟩ = some (.int .i64 1) := (hb1.cell (p := ⟨wo.heap.size, 0, none⟩) (by simp)).trans (by simp [go_sem]); have q1 : w1.cell? ⟨wo.heap.size, 1, none⟩ = some (.int .i64 16) := (hb1.cell (p := ⟨wo.heap.size, 1, none⟩) (by simp)).trans (by simp [go_sem]); have q2 : w1.cell? ⟨wo.heap.size, 2, none⟩ = some (.func (.func 174) #[] #[]) := (hb1.cell (p := ⟨wo.heap.size, 2, none⟩) (by simp)).trans (by simp [go_sem]); have q3 : w1.cell? ⟨wo.heap.size, 3, none⟩ = some (.func (.func 175) #[] #[]) := (hb1.cell (p := ⟨wo.heap.size, 3, none⟩) (by simp)).trans (by simp [go_sem]); have hwz : wo.heap.size < w1.heap.size := (by have := hb1.size; simp at this; omega); clear hb1 r0 r1 rf rl)
      refine detL_begin [.val (.agg #[.int .i64 1, .int .i64 16, .func (.func 174) #[] #[], .func (.func 175) #[] #[]]), .val (.string s), .val (.int .i64 n0), .val (.string (s.extract 0 n0)), .val (.bool false)] 5 (by kernel_rfl) ?_
      refine detL_val (by kernel_rfl) (yields_of rfl fun w1 hb1 => ?_) ?_
      · have hc1 := bcellD hb1
        have d0 := (hc1 wo.heap.size 0 hwz).trans q0; have d1 := (hc1 wo.heap.size 1 hwz).trans q1; have d2 := (hc1 wo.heap.size 2 hwz).trans q2; have d3 := (hc1 wo.heap.size 3 hwz).trans q3
        clear hb1
        go_simp
        exact Det1_same
      simp only [Act.put, List.setIfInBounds_toArray, List.set_cons_zero, List.set_cons_succ]
      refine detL_val (by kernel_rfl) (yields_of rfl fun w1 hb1 => ?_) ?_
      · have hc1 := bcellD hb1
        clear hb1
        go_simp
        exact Det1_same
      simp only [Act.put, List.setIfInBounds_toArray, List.set_cons_zero, List.set_cons_succ]
      refine detL_val (by kernel_rfl) (yields_of rfl fun w1 hb1 => ?_) ?_
      · have hc1 := bcellD hb1
        clear hb1
        go_simp
        exact Det1_same
      simp only [Act.put, List.setIfInBounds_toArray, List.set_cons_zero, List.set_cons_succ]
      refine detL_val (by kernel_rfl) (yields_of rfl fun w1 hb1 => ?_) ?_
      · have hc1 := bcellD hb1
        clear hb1
        go_simp
        exact Det1_same
      simp only [Act.put, List.setIfInBounds_toArray, List.set_cons_zero, List.set_cons_succ]
      refine detL_val (by kernel_rfl) (yields_of rfl fun w1 hb1 => ?_) ?_
      · have hc1 := bcellD hb1
        clear hb1
        go_simp
        exact Det1_enter (HM0.out _)
      simp only [Act.put, List.setIfInBounds_toArray, List.set_cons_zero, List.set_cons_succ]
      refine detL_done (by kernel_rfl) fun w2 hw2 => ?_
      have HW2 := Lib.hid (HW1.out.later ((Below.refl _ _).drew.trans hw2.below))
      clear hw2 q0 q1 q2 q3
      go_wp2
      go_roundw
      case rel => exact ⟨0 + 1, by omega, by go_num, HW2.out⟩
      case measure => simp [intOf]; try omega
    · skip
      by_cases hk1 : k = 1
      · subst hk1
        have r0 := HW.out.r0
        have r1 := HW.out.r1
        have rf := HW.out.f
        have rl := HW.out.lt
        have ix := kix1
        go_wp2_with (go_at_call 81; refine (HT1.out _).mono ?_; rintro e w1 ⟨rfl, hb1⟩; have HW1 := Lib.hid (HW.out.later' rfl hb1); have q0 : w1.cell? ⟨wo.heap.size, 0, none⟩ = some (.int .i64 2) := (hb1.cell (p := ⟨wo.heap.size, 0, none⟩) (by simp)).trans (by simp [go_sem]); have q1 : w1.cell? ⟨wo.heap.size, 1, none⟩ = some (.int .i64 19) := (hb1.cell (p := ⟨wo.heap.size, 1, none⟩) (by simp)).trans (by simp [go_sem]); have q2 : w1.cell? ⟨wo.heap.size, 2, none⟩ = some (.func (.func 176) #[] #[]) := (hb1.cell (p := ⟨wo.heap.size, 2, none⟩) (by simp)).trans (by simp [go_sem]); have q3 : w1.cell? ⟨wo.heap.size, 3, none⟩ = some (.func (.func 176) #[] #[]) := (hb1.cell (p := ⟨wo.heap.size, 3, none⟩) (by simp)).trans (by simp [go_sem]); have hwz : wo.heap.size < w1.heap.size := (by have := hb1.size; simp at this; omega); clear hb1 r0 r1 rf rl)
        refine detL_begin [.val (.agg #[.int .i64 2, .int .i64 19, .func (.func 176) #[] #[], .func (.func 176) #[] #[]]), .val (.string s), .val (.int .i64 n1), .val (.string (s.extract 0 n1)), .val (.bool false)] 5 (by kernel_rfl) ?_
        refine detL_val (by kernel_rfl) (yields_of rfl fun w1 hb1 => ?_) ?_
        · have hc1 := bcellD hb1
          have d0 := (hc1 wo.heap.size 0 hwz).trans q0; have d1 := (hc1 wo.heap.size 1 hwz).trans q1; have d2 := (hc1 wo.heap.size 2 hwz).trans q2; have d3 := (hc1 wo.heap.size 3 hwz).trans q3
          clear hb1
          go_simp
          exact Det1_same
        simp only [Act.put, List.setIfInBounds_toArray, List.set_cons_zero, List.set_cons_succ]
        refine detL_val (by kernel_rfl) (yields_of rfl fun w1 hb1 => ?_) ?_
        · have hc1 := bcellD hb1
          clear hb1
          go_simp
          exact Det1_same
        simp only [Act.put, List.setIfInBounds_toArray, List.set_cons_zero, List.set_cons_succ]
        refine detL_val (by kernel_rfl) (yields_of rfl fun w1 hb1 => ?_) ?_
        · have hc1 := bcellD hb1
          clear hb1
          go_simp
          exact Det1_same
        simp only [Act.put, List.setIfInBounds_toArray, List.set_cons_zero, List.set_cons_succ]
        refine detL_val (by kernel_rfl) (yields_of rfl fun w1 hb1 => ?_) ?_
        · have hc1 := bcellD hb1
          clear hb1
          go_simp
          exact Det1_same
        simp only [Act.put, List.setIfInBounds_toArray, List.set_cons_zero, List.set_cons_succ]
        refine detL_val (by kernel_rfl) (yields_of rfl fun w1 hb1 => ?_) ?_
        · have hc1 := bcellD hb1
          clear hb1
          go_simp
          exact Det1_enter (HM1.out _)
        simp only [Act.put, List.setIfInBounds_toArray, List.set_cons_zero, List.set_cons_succ]
        refine detL_done (by kernel_rfl) fun w2 hw2 => ?_
        have HW2 := Lib.hid (HW1.out.later ((Below.refl _ _).drew.trans hw2.below))
        clear hw2 q0 q1 q2 q3
        go_wp2
        go_roundw
        case rel => exact ⟨1 + 1, by omega, by go_num, HW2.out⟩
        case measure => simp [intOf]; try omega
      · skip
        by_cases hk2 : k = 2
        · subst hk2
          have r0 := HW.out.r0
          have r1 := HW.out.r1
          have rf := HW.out.f
          have rl := HW.out.lt
          have ix := kix2
          go_wp2_with (go_at_call 81; refine (HT2.out _).mono ?_; rintro e w1 ⟨rfl, hb1⟩; have HW1 := Lib.hid (HW.out.later' rfl hb1); have q0 : w1.cell? ⟨wo.heap.size, 0, none⟩ = some (.int .i64 4) := (hb1.cell (p := ⟨wo.heap.size, 0, none⟩) (by simp)).trans (by simp [go_sem]); have q1 : w1.cell? ⟨wo.heap.size, 1, none⟩ = some (.int .i64 1) := (hb1.cell (p := ⟨wo.heap.size, 1, none⟩) (by simp)).trans (by simp [go_sem]); have q2 : w1.cell? ⟨wo.heap.size, 2, none⟩ = some (.func (.func 177) #[] #[]) := (hb1.cell (p := ⟨wo.heap.size, 2, none⟩) (by simp)).trans (by simp [go_sem]); have q3 : w1.cell? ⟨wo.heap.size, 3, none⟩ = some (.func (.func 178) #[] #[]) := (hb1.cell (p := ⟨wo.heap.size, 3, none⟩) (by simp)).trans (by simp [go_sem]); have hwz : wo.heap.size < w1.heap.size := (by have := hb1.size; simp at this; omega); clear hb1 r0 r1 rf rl)
          refine detL_begin [.val (.agg #[.int .i64 4, .int .i64 1, .func (.func 177) #[] #[], .func (.func 178) #[] #[]]), .val (.string s), .val (.int .i64 n2), .val (.string (s.extract 0 n2)), .val (.bool true)] 5 (by kernel_rfl) ?_
          refine detL_val (by kernel_rfl) (yields_of rfl fun w1 hb1 => ?_) ?_
          · have hc1 := bcellD hb1
            have d0 := (hc1 wo.heap.size 0 hwz).trans q0; have d1 := (hc1 wo.heap.size 1 hwz).trans q1; have d2 := (hc1 wo.heap.size 2 hwz).trans q2; have d3 := (hc1 wo.heap.size 3 hwz).trans q3
            clear hb1
            go_simp
            exact Det1_same
          simp only [Act.put, List.setIfInBounds_toArray, List.set_cons_zero, List.set_cons_succ]
          refine detL_val (by kernel_rfl) (yields_of rfl fun w1 hb1 => ?_) ?_
          · have hc1 := bcellD hb1
            clear hb1
            go_simp
            exact Det1_same
          simp only [Act.put, List.setIfInBounds_toArray, List.set_cons_zero, List.set_cons_succ]
          refine detL_val (by kernel_rfl) (yields_of rfl fun w1 hb1 => ?_) ?_
          · have hc1 := bcellD hb1
            clear hb1
            go_simp
            exact Det1_same
          simp only [Act.put, List.setIfInBounds_toArray, List.set_cons_zero, List.set_cons_succ]
          refine detL_val (by kernel_rfl) (yields_of rfl fun w1 hb1 => ?_) ?_
          · have hc1 := bcellD hb1
            clear hb1
            go_simp
            exact Det1_same
          simp only [Act.put, List.setIfInBounds_toArray, List.set_cons_zero, List.set_cons_succ]
          refine detL_val (by kernel_rfl) (yields_of rfl fun w1 hb1 => ?_) ?_
          · have hc1 := bcellD hb1
            clear hb1
            go_simp
            exact Det1_enter (HM2.out _)
          simp only [Act.put, List.setIfInBounds_toArray, List.set_cons_zero, List.set_cons_succ]
          refine detL_done (by kernel_rfl) fun w2 hw2 => ?_
          have HW2 := Lib.hid (HW1.out.later ((Below.refl _ _).drew.trans hw2.below))
          have p0 : w2.cell? ⟨wo.heap.size, 0, none⟩ = some (.int .i64 4) := (hw2.below.cell (p := ⟨wo.heap.size, 0, none⟩) hwz).trans q0
          clear hw2 q0 q1 q2 q3
          have r0 := HW2.out.r0
          have r1 := HW2.out.r1
          have rf := HW2.out.f
          have rl := HW2.out.lt
          go_wp2
          go_region
          all_goals
            go_wp2
            refine bodyPost_ret (v := .tuple #[.agg #[.int .i64 4, .string (s.extract 0 n2)], .int .i64 n2]) ?_ rfl ⟨rfl, ?_⟩
            · (simp [results, Tryz.results39, go_sem, *]; done)
            · have hb1 := HW2.out.below
              repeat (first | (with_reducible exact Below.refl _ _) | ((with_reducible refine cSet1 ?_ ?_ _ _); (· ((try simp) <;> omega))) | (with_reducible refine Below.drew ?_) | ((with_reducible refine cAlloc ?_ ?_ _); (· ((try simp) <;> omega))) | ((with_reducible refine cOn (by assumption) ?_ ?_); (· ((try simp) <;> omega))))
        · skip
          omega

set_option maxRecDepth 100000 in
set_option maxHeartbeats 3200000 in
theorem first_3 (s : ByteArray) (w : World) (hs : s.size ≤ 100000) (hl : 0 < s.size) (h39 : ¬ (s[0].toNat : Int) = 39) (n0 : Nat) (h0 : n0 ≤ s.size) (t0 : ∀ W, Calls Tryz.prog 81 #[.agg #[.int .i64 1, .int .i64 16, .func (.func 174) #[] #[], .func (.func 175) #[] #[]], .string s] W fun e w' => e = .returned (.int .i64 n0) ∧ Below W.heap.size W w') (m0 : ∀ W, Calls Tryz.prog 82 #[.agg #[.int .i64 1, .int .i64 16, .func (.func 174) #[] #[], .func (.func 175) #[] #[]], .string (s.extract 0 n0)] W fun e w' => e = .returned (.bool false) ∧ Below W.heap.size W w') (n1 : Nat) (h1 : n1 ≤ s.size) (t1 : ∀ W, Calls Tryz.prog 81 #[.agg #[.int .i64 2, .int .i64 19, .func (.func 176) #[] #[], .func (.func 176) #[] #[]], .string s] W fun e w' => e = .returned (.int .i64 n1) ∧ Below W.heap.size W w') (m1 : ∀ W, Calls Tryz.prog 82 #[.agg #[.int .i64 2, .int .i64 19, .func (.func 176) #[] #[], .func (.func 176) #[] #[]], .string (s.extract 0 n1)] W fun e w' => e = .returned (.bool false) ∧ Below W.heap.size W w') (n2 : Nat) (h2 : n2 ≤ s.size) (t2 : ∀ W, Calls Tryz.prog 81 #[.agg #[.int .i64 4, .int .i64 1, .func (.func 177) #[] #[], .func (.func 178) #[] #[]], .string s] W fun e w' => e = .returned (.int .i64 n2) ∧ Below W.heap.size W w') (m2 : ∀ W, Calls Tryz.prog 82 #[.agg #[.int .i64 4, .int .i64 1, .func (.func 177) #[] #[], .func (.func 178) #[] #[]], .string (s.extract 0 n2)] W fun e w' => e = .returned (.bool false) ∧ Below W.heap.size W w') :
    Calls Tryz.prog 39 #[.string s] w fun e w' => e = .returned (.tuple #[.agg #[.int .i64 0, .string ⟨#[]⟩], .int .i64 0]) ∧ Below w.heap.size w w' := by
  have HT0 := Lib.hid t0
  have HM0 := Lib.hid m0
  have b0 : 0 ≤ (n0 : Int) ∧ (n0 : Int) ≤ (s.size : Int) := by omega
  have HT1 := Lib.hid t1
  have HM1 := Lib.hid m1
  have b1 : 0 ≤ (n1 : Int) ∧ (n1 : Int) ≤ (s.size : Int) := by omega
  have HT2 := Lib.hid t2
  have HM2 := Lib.hid m2
  have b2 : 0 ≤ (n2 : Int) ∧ (n2 : Int) ≤ (s.size : Int) := by omega
  clear t0 m0 t1 m1 t2 m2
  go_enter Tryz.func39, Tryz.ntmps39
  go_wp2_with (go_at_call 80; refine (kinds_any _).mono ?_; rintro e w1 ⟨rfl, hb1⟩; have HW0 := Lib.hid ((W2.start w _).later hb1); clear hb1)
  go_loopw [15] (fun i wr => ∃ k : Nat, k ≤ 3 ∧ i = .int .i64 k ∧ W2 w wr) (fun i _ => 3 - (intOf i).toNat)
  case atStart => exact ⟨0, by omega, rfl, HW0.out⟩
  case round =>
    obtain ⟨k, hk, rfl, hW⟩ := hrel
    have HW := Lib.hid hW
    clear hW HW0
    obtain ⟨wo, hwo⟩ : ∃ wo : World, wo = wr := ⟨_, rfl⟩
    rw [← hwo] at HW ⊢
    clear hwo
    by_cases hk0 : k = 0
    · subst hk0
      have r0 := HW.out.r0
      have r1 := HW.out.r1
      have rf := HW.out.f
      have rl := HW.out.lt
      have ix := kix0
      go_wp2_with (go_at_call 81; refine (HT0.out _).mono ?_; rintro e w1 ⟨rfl, hb1⟩; have HW1 := Lib.hid (HW.out.later' rfl hb1); have q0 : w1.cell? ⟨wo.heap.size, 0, none⟩ = some (.int .i64 1) := (hb1.cell (p := ⟨wo.heap.size, 0, none⟩) (by simp)).trans (by simp [go_sem]); have q1 : w1.cell? ⟨wo.heap.size, 1, none⟩ = some (.int .i64 16) := (hb1.cell (p := ⟨wo.heap.size, 1, none⟩) (by simp)).trans (by simp [go_sem]); have q2 : w1.cell? ⟨wo.heap.size, 2, none⟩ = some (.func (.func 174) #[] #[]) := (hb1.cell (p := ⟨wo.heap.size, 2, none⟩) (by simp)).trans (by simp [go_sem]); have q3 : w1.cell? ⟨wo.heap.size, 3, none⟩ = some (.func (.func 175) #[] #[]) := (hb1.cell (p := ⟨wo.heap.size, 3, none⟩) (by simp)).trans (by simp [go_sem]); have hwz : wo.heap.size < w1.heap.size := (by have := hb1.size; simp at this; omega); clear hb1 r0 r1 rf rl)
      refine detL_begin [.val (.agg #[.int .i64 1, .int .i64 16, .func (.func 174) #[] #[], .func (.func 175) #[] #[]]), .val (.string s), .val (.int .i64 n0), .val (.string (s.extract 0 n0)), .val (.bool false)] 5 (by kernel_rfl) ?_
      refine detL_val (by kernel_rfl) (yields_of rfl fun w1 hb1 => ?_) ?_
      · have hc1 := bcellD hb1
        have d0 := (hc1 wo.heap.size 0 hwz).trans q0; have d1 := (hc1 wo.heap.size 1 hwz).trans q1; have d2 := (hc1 wo.heap.size 2 hwz).trans q2; have d3 := (hc1 wo.heap.size 3 hwz).trans q3
        clear hb1
        go_simp
        exact Det1_same
      simp only [Act.put, List.setIfInBounds_toArray, List.set_cons_zero, List.set_cons_succ]
      refine detL_val (by kernel_rfl) (yields_of rfl fun w1 hb1 => ?_) ?_
      · have hc1 := bcellD hb1
        clear hb1
        go_simp
        exact Det1_same
      simp only [Act.put, List.setIfInBounds_toArray, List.set_cons_zero, List.set_cons_succ]
      refine detL_val (by kernel_rfl) (yields_of rfl fun w1 hb1 => ?_) ?_
      · have hc1 := bcellD hb1
        clear hb1
        go_simp
        exact Det1_same
      simp only [Act.put, List.setIfInBounds_toArray, List.set_cons_zero, List.set_cons_succ]
      refine detL_val (by kernel_rfl) (yields_of rfl fun w1 hb1 => ?_) ?_
      · have hc1 := bcellD hb1
        clear hb1
        go_simp
        exact Det1_same
      simp only [Act.put, List.setIfInBounds_toArray, List.set_cons_zero, List.set_cons_succ]
      refine detL_val (by kernel_rfl) (yields_of rfl fun w1 hb1 => ?_) ?_
      · have hc1 := bcellD hb1
        clear hb1
        go_simp
        exact Det1_enter (HM0.out _)
      simp only [Act.put, List.setIfInBounds_toArray, List.set_cons_zero, List.set_cons_succ]
      refine detL_done (by kernel_rfl) fun w2 hw2 => ?_
      have HW2 := Lib.hid (HW1.out.later ((Below.refl _ _).drew.trans hw2.below))
      clear hw2 q0 q1 q2 q3
      go_wp2
      go_roundw
      case rel => exact ⟨0 + 1, by omega, by go_num, HW2.out⟩
      case measure => simp [intOf]; try omega
    · skip
      by_cases hk1 : k = 1
      · subst hk1
        have r0 := HW.out.r0
        have r1 := HW.out.r1
        have rf := HW.out.f
        have rl := HW.out.lt
        have ix := kix1
        go_wp2_with (go_at_call 81; refine (HT1.out _).mono ?_; rintro e w1 ⟨rfl, hb1⟩; have HW1 := Lib.hid (HW.out.later' rfl hb1); have q0 : w1.cell? ⟨wo.heap.size, 0, none⟩ = some (.int .i64 2) := (hb1.cell (p := ⟨wo.heap.size, 0, none⟩) (by simp)).trans (by simp [go_sem]); have q1 : w1.cell? ⟨wo.heap.size, 1, none⟩ = some (.int .i64 19) := (hb1.cell (p := ⟨wo.heap.size, 1, none⟩) (by simp)).trans (by simp [go_sem]); have q2 : w1.cell? ⟨wo.heap.size, 2, none⟩ = some (.func (.func 176) #[] #[]) := (hb1.cell (p := ⟨wo.heap.size, 2, none⟩) (by simp)).trans (by simp [go_sem]); have q3 : w1.cell? ⟨wo.heap.size, 3, none⟩ = some (.func (.func 176) #[] #[]) := (hb1.cell (p := ⟨wo.heap.size, 3, none⟩) (by simp)).trans (by simp [go_sem]); have hwz : wo.heap.size < w1.heap.size := (by have := hb1.size; simp at this; omega); clear hb1 r0 r1 rf rl)
        refine detL_begin [.val (.agg #[.int .i64 2, .int .i64 19, .func (.func 176) #[] #[], .func (.func 176) #[] #[]]), .val (.string s), .val (.int .i64 n1), .val (.string (s.extract 0 n1)), .val (.bool false)] 5 (by kernel_rfl) ?_
        refine detL_val (by kernel_rfl) (yields_of rfl fun w1 hb1 => ?_) ?_
        · have hc1 := bcellD hb1
          have d0 := (hc1 wo.heap.size 0 hwz).trans q0; have d1 := (hc1 wo.heap.size 1 hwz).trans q1; have d2 := (hc1 wo.heap.size 2 hwz).trans q2; have d3 := (hc1 wo.heap.size 3 hwz).trans q3
          clear hb1
          go_simp
          exact Det1_same
        simp only [Act.put, List.setIfInBounds_toArray, List.set_cons_zero, List.set_cons_succ]
        refine detL_val (by kernel_rfl) (yields_of rfl fun w1 hb1 => ?_) ?_
        · have hc1 := bcellD hb1
          clear hb1
          go_simp
          exact Det1_same
        simp only [Act.put, List.setIfInBounds_toArray, List.set_cons_zero, List.set_cons_succ]
        refine detL_val (by kernel_rfl) (yields_of rfl fun w1 hb1 => ?_) ?_
        · have hc1 := bcellD hb1
          clear hb1
          go_simp
          exact Det1_same
        simp only [Act.put, List.setIfInBounds_toArray, List.set_cons_zero, List.set_cons_succ]
        refine detL_val (by kernel_rfl) (yields_of rfl fun w1 hb1 => ?_) ?_
        · have hc1 := bcellD hb1
          clear hb1
          go_simp
          exact Det1_same
        simp only [Act.put, List.setIfInBounds_toArray, List.set_cons_zero, List.set_cons_succ]
        refine detL_val (by kernel_rfl) (yields_of rfl fun w1 hb1 => ?_) ?_
        · have hc1 := bcellD hb1
          clear hb1
          go_simp
          exact Det1_enter (HM1.out _)
        simp only [Act.put, List.setIfInBounds_toArray, List.set_cons_zero, List.set_cons_succ]
        refine detL_done (by kernel_rfl) fun w2 hw2 => ?_
        have HW2 := Lib.hid (HW1.out.later ((Below.refl _ _).drew.trans hw2.below))
        clear hw2 q0 q1 q2 q3
        go_wp2
        go_roundw
        case rel => exact ⟨1 + 1, by omega, by go_num, HW2.out⟩
        case measure => simp [intOf]; try omega
      · skip
        by_cases hk2 : k = 2
        · subst hk2
          have r0 := HW.out.r0
          have r1 := HW.out.r1
          have rf := HW.out.f
          have rl := HW.out.lt
          have ix := kix2
          go_wp2_with (go_at_call 81; refine (HT2.out _).mono ?_; rintro e w1 ⟨rfl, hb1⟩; have HW1 := Lib.hid (HW.out.later' rfl hb1); have q0 : w1.cell? ⟨wo.heap.size, 0, none⟩ = some (.int .i64 4) := (hb1.cell (p := ⟨wo.heap.size, 0, none⟩) (by simp)).trans (by simp [go_sem]); have q1 : w1.cell? ⟨wo.heap.size, 1, none⟩ = some (.int .i64 1) := (hb1.cell (p := ⟨wo.heap.size, 1, none⟩) (by simp)).trans (by simp [go_sem]); have q2 : w1.cell? ⟨wo.heap.size, 2, none⟩ = some (.func (.func 177) #[] #[]) := (hb1.cell (p := ⟨wo.heap.size, 2, none⟩) (by simp)).trans (by simp [go_sem]); have q3 : w1.cell? ⟨wo.heap.size, 3, none⟩ = some (.func (.func 178) #[] #[]) := (hb1.cell (p := ⟨wo.heap.size, 3, none⟩) (by simp)).trans (by simp [go_sem]); have hwz : wo.heap.size < w1.heap.size := (by have := hb1.size; simp at this; omega); clear hb1 r0 r1 rf rl)
          refine detL_begin [.val (.agg #[.int .i64 4, .int .i64 1, .func (.func 177) #[] #[], .func (.func 178) #[] #[]]), .val (.string s), .val (.int .i64 n2), .val (.string (s.extract 0 n2)), .val (.bool false)] 5 (by kernel_rfl) ?_
          refine detL_val (by kernel_rfl) (yields_of rfl fun w1 hb1 => ?_) ?_
          · have hc1 := bcellD hb1
            have d0 := (hc1 wo.heap.size 0 hwz).trans q0; have d1 := (hc1 wo.heap.size 1 hwz).trans q1; have d2 := (hc1 wo.heap.size 2 hwz).trans q2; have d3 := (hc1 wo.heap.size 3 hwz).trans q3
            clear hb1
            go_simp
            exact Det1_same
          simp only [Act.put, List.setIfInBounds_toArray, List.set_cons_zero, List.set_cons_succ]
          refine detL_val (by kernel_rfl) (yields_of rfl fun w1 hb1 => ?_) ?_
          · have hc1 := bcellD hb1
            clear hb1
            go_simp
            exact Det1_same
          simp only [Act.put, List.setIfInBounds_toArray, List.set_cons_zero, List.set_cons_succ]
          refine detL_val (by kernel_rfl) (yields_of rfl fun w1 hb1 => ?_) ?_
          · have hc1 := bcellD hb1
            clear hb1
            go_simp
            exact Det1_same
          simp only [Act.put, List.setIfInBounds_toArray, List.set_cons_zero, List.set_cons_succ]
          refine detL_val (by kernel_rfl) (yields_of rfl fun w1 hb1 => ?_) ?_
          · have hc1 := bcellD hb1
            clear hb1
            go_simp
            exact Det1_same
          simp only [Act.put, List.setIfInBounds_toArray, List.set_cons_zero, List.set_cons_succ]
          refine detL_val (by kernel_rfl) (yields_of rfl fun w1 hb1 => ?_) ?_
          · have hc1 := bcellD hb1
            clear hb1
            go_simp
            exact Det1_enter (HM2.out _)
          simp only [Act.put, List.setIfInBounds_toArray, List.set_cons_zero, List.set_cons_succ]
          refine detL_done (by kernel_rfl) fun w2 hw2 => ?_
          have HW2 := Lib.hid (HW1.out.later ((Below.refl _ _).drew.trans hw2.below))
          clear hw2 q0 q1 q2 q3
          go_wp2
          go_roundw
          case rel => exact ⟨2 + 1, by omega, by go_num, HW2.out⟩
          case measure => simp [intOf]; try omega
        · skip
          obtain rfl : k = 3 := by omega
          have r0 := HW.out.r0
          have r1 := HW.out.r1
          have rf := HW.out.f
          have rl := HW.out.lt
          go_wp2
          refine bodyPost_ret (v := .tuple #[.agg #[.int .i64 0, .string ⟨#[]⟩], .int .i64 0]) ?_ rfl ⟨rfl, ?_⟩
          · (simp [results, Tryz.results39, go_sem, *]; done)
          · have hb1 := HW.out.below
            repeat (first | (with_reducible exact Below.refl _ _) | ((with_reducible refine cSet1 ?_ ?_ _ _); (· ((try simp) <;> omega))) | (with_reducible refine Below.drew ?_) | ((with_reducible refine cAlloc ?_ ?_ _); (· ((try simp) <;> omega))) | ((with_reducible refine cOn (by assumption) ?_ ?_); (· ((try simp) <;> omega))))

theorem tw_tw (q : UInt8 → Bool) : ∀ r : List UInt8, (r.takeWhile q).takeWhile q = r.takeWhile q
  | [] => rfl
  | c :: r => by
    by_cases h : q c = true
    · rw [List.takeWhile_cons, if_pos h, List.takeWhile_cons, if_pos h, tw_tw q r]
    · rw [List.takeWhile_cons, if_neg h]; rfl
theorem tog_take {p q : UInt8 → Bool} {l : List UInt8} (h : 1 ≤ tog p q l) : tog p q (l.take (tog p q l)) = tog p q l ∧ tog p q l ≤ l.length := by
  cases l with
  | nil => simp [tog] at h
  | cons c r =>
    by_cases hp : p c
    · have e : tog p q (c :: r) = (r.takeWhile q).length + 1 := by rw [tog, if_pos hp]; omega
      have hl := (List.takeWhile_sublist q (l := r)).length_le
      rw [e, List.take_succ_cons, tog, if_pos hp]
      have e2 : r.take (r.takeWhile q).length = r.takeWhile q := by
        conv => lhs; arg 2; rw [← List.takeWhile_append_dropWhile (p := q) (l := r)]
        rw [List.take_append_of_le_length (Nat.le_refl _), List.take_of_length_le (Nat.le_refl _)]
      have e3 : (r.takeWhile q).takeWhile q = r.takeWhile q := tw_tw q r
      rw [e2, e3]
      simp
      omega
    · rw [tog, if_neg hp] at h
      omega
theorem tog_le (p q : UInt8 → Bool) (l : List UInt8) : tog p q l ≤ l.length := by
  by_cases h : 1 ≤ tog p q l
  · exact (tog_take h).2
  · omega
theorem kmay_take (p q : UInt8 → Bool) (most : Nat) (l : List UInt8) : kmay p q most (l.take (tog p q l)) = (decide (1 ≤ tog p q l) && decide (tog p q l ≤ most)) := by
  by_cases h : 1 ≤ tog p q l
  · obtain ⟨h1, h2⟩ := tog_take h
    have hl : (l.take (tog p q l)).length = tog p q l := by rw [List.length_take]; omega
    have he : (l.take (tog p q l)).isEmpty = false := by
      cases hx : l.take (tog p q l) with
      | nil => rw [hx] at hl; simp at hl; omega
      | cons _ _ => rfl
    unfold kmay
    rw [he, hl, h1, decide_eq_true h]
    simp
  · have h0 : tog p q l = 0 := by omega
    rw [h0]
    simp [kmay]
theorem sig_not {c : UInt8} (h : sigB c = true) : letB c = false ∧ digB c = false := by
  have h := List.contains_iff_mem.1 h
  simp only [sigL, List.mem_cons, List.mem_nil_iff, or_false] at h
  rcases h with rfl | rfl | rfl | rfl | rfl | rfl | rfl | rfl <;> decide
theorem let_not {c : UInt8} (h : letB c = true) : digB c = false := by
  unfold letB at h
  unfold digB
  simp at h
  simp
  omega
theorem tog_zero {p q : UInt8 → Bool} {c : UInt8} {r : List UInt8} (h : p c = false) : tog p q (c :: r) = 0 := by rw [tog, h]; rfl
theorem tog_on {p q : UInt8 → Bool} {c : UInt8} {r : List UInt8} (h : p c = true) : tog p q (c :: r) = 1 + (r.takeWhile q).length := by rw [tog, h]; rfl
theorem none_none (r : List UInt8) : r.takeWhile nonB = [] := by cases r <;> simp [nonB]
theorem bs_take (s : ByteArray) (n : Nat) : s.extract 0 n = ⟨(s.data.toList.take n).toArray⟩ := bs_eq (take_list s n)
set_option maxRecDepth 100000 in
theorem first_any (s : ByteArray) (w : World) (h1 : 1 ≤ s.size) (hs : s.size ≤ 100000) (hl : LibE w) :
    Calls Tryz.prog 39 #[.string s] w fun e w' => e = .returned (tkV (fst s.data.toList)) ∧ Below w.heap.size w w' := by
  by_cases h0 : s[0] = 39
  · cases hf : fst s.data.toList with
    | none =>
      have := first_quote s w h1 hs h0 hl 0 ⟨#[]⟩ 0 (by rw [hf]; rfl)
      rwa [hf] at this
    | some y =>
      obtain ⟨t, n⟩ := y
      have := first_quote s w h1 hs h0 hl t.k ⟨t.s.toArray⟩ n (by rw [hf]; rfl)
      rwa [hf] at this
  · have h39 : ¬ (s[0].toNat : Int) = 39 := fun h => h0 (UInt8.toNat_inj.1 (by show s[0].toNat = 39; omega))
    obtain ⟨r, e0, _⟩ := list_head h1
    have T0 := fun (W : World) => tog_any 1 16 _ _ letB parB cls_letter cls_inWord s W hs
    have T1 := fun (W : World) => tog_any 2 19 _ _ digB digB cls_digit cls_digit s W hs
    have T2 := fun (W : World) => tog_any 4 1 _ _ sigB nonB cls_isSign cls_none s W hs
    have L0 : tog letB parB s.data.toList ≤ s.size := by rw [Lib.size_eq]; exact tog_le _ _ _
    have L1 : tog digB digB s.data.toList ≤ s.size := by rw [Lib.size_eq]; exact tog_le _ _ _
    have L2 : tog sigB nonB s.data.toList ≤ s.size := by rw [Lib.size_eq]; exact tog_le _ _ _
    have M0 := fun (b : Bool) (h : (decide (1 ≤ tog letB parB s.data.toList) && decide (tog letB parB s.data.toList ≤ 16)) = b) (W : World) => (show Calls Tryz.prog 82 #[.agg #[.int .i64 1, .int .i64 16, .func (.func 174) #[] #[], .func (.func 175) #[] #[]], .string (s.extract 0 (tog letB parB s.data.toList))] W fun e w' => e = .returned (.bool b) ∧ Below W.heap.size W w' from by
      have := kmay_any 1 16 _ _ letB parB cls_letter cls_inWord (s.extract 0 (tog letB parB s.data.toList)) W (by rw [ByteArray.size_extract]; omega) (by omega)
      rwa [take_list, kmay_take, h] at this)
    have M1 := fun (b : Bool) (h : (decide (1 ≤ tog digB digB s.data.toList) && decide (tog digB digB s.data.toList ≤ 19)) = b) (W : World) => (show Calls Tryz.prog 82 #[.agg #[.int .i64 2, .int .i64 19, .func (.func 176) #[] #[], .func (.func 176) #[] #[]], .string (s.extract 0 (tog digB digB s.data.toList))] W fun e w' => e = .returned (.bool b) ∧ Below W.heap.size W w' from by
      have := kmay_any 2 19 _ _ digB digB cls_digit cls_digit (s.extract 0 (tog digB digB s.data.toList)) W (by rw [ByteArray.size_extract]; omega) (by omega)
      rwa [take_list, kmay_take, h] at this)
    have M2 := fun (b : Bool) (h : (decide (1 ≤ tog sigB nonB s.data.toList) && decide (tog sigB nonB s.data.toList ≤ 1)) = b) (W : World) => (show Calls Tryz.prog 82 #[.agg #[.int .i64 4, .int .i64 1, .func (.func 177) #[] #[], .func (.func 178) #[] #[]], .string (s.extract 0 (tog sigB nonB s.data.toList))] W fun e w' => e = .returned (.bool b) ∧ Below W.heap.size W w' from by
      have := kmay_any 4 1 _ _ sigB nonB cls_isSign cls_none (s.extract 0 (tog sigB nonB s.data.toList)) W (by rw [ByteArray.size_extract]; omega) (by omega)
      rwa [take_list, kmay_take, h] at this)
    have none3 : (decide (1 ≤ tog letB parB s.data.toList) && decide (tog letB parB s.data.toList ≤ 16)) = false → (decide (1 ≤ tog digB digB s.data.toList) && decide (tog digB digB s.data.toList ≤ 19)) = false → (decide (1 ≤ tog sigB nonB s.data.toList) && decide (tog sigB nonB s.data.toList ≤ 1)) = false → fst s.data.toList = none →
        Calls Tryz.prog 39 #[.string s] w fun e w' => e = .returned (tkV (fst s.data.toList)) ∧ Below w.heap.size w w' := fun a b c d => by
      rw [d]
      exact first_3 s w hs h1 h39 _ L0 T0 (M0 _ a) _ L1 T1 (M1 _ b) _ L2 T2 (M2 _ c)
    cases hlet : letB s[0] with
    | true =>
      have n1 : tog digB digB s.data.toList = 0 := by rw [e0]; exact tog_zero (let_not hlet)
      have hsig : sigB s[0] = false := by
        cases h : sigB s[0] with
        | false => rfl
        | true => rw [(sig_not h).1] at hlet; cases hlet
      have n2 : tog sigB nonB s.data.toList = 0 := by rw [e0]; exact tog_zero hsig
      have n0 : tog letB parB s.data.toList = 1 + (r.takeWhile parB).length := by rw [e0]; exact tog_on hlet
      by_cases hz : 1 + (r.takeWhile parB).length ≤ 16
      · have hf : fst s.data.toList = some (⟨1, s.data.toList.take (tog letB parB s.data.toList)⟩, tog letB parB s.data.toList) := by
          rw [n0, e0]
          simp [fst, h0, hlet, hz]
        rw [hf]
        have := first_0 s w hs h1 h39 _ L0 T0 (M0 true (by rw [n0, decide_eq_true hz]; simp))
        rwa [bs_take] at this
      · refine none3 (by rw [n0, decide_eq_false hz]; simp) (by rw [n1]; rfl) (by rw [n2]; rfl) ?_
        rw [e0]
        simp [fst, h0, hlet, hz]
    | false =>
      have n0 : tog letB parB s.data.toList = 0 := by rw [e0]; exact tog_zero hlet
      cases hdig : digB s[0] with
      | true =>
        have hsig : sigB s[0] = false := by
          cases h : sigB s[0] with
          | false => rfl
          | true => rw [(sig_not h).2] at hdig; cases hdig
        have n2 : tog sigB nonB s.data.toList = 0 := by rw [e0]; exact tog_zero hsig
        have n1 : tog digB digB s.data.toList = 1 + (r.takeWhile digB).length := by rw [e0]; exact tog_on hdig
        by_cases hz : 1 + (r.takeWhile digB).length ≤ 19
        · have hf : fst s.data.toList = some (⟨2, s.data.toList.take (tog digB digB s.data.toList)⟩, tog digB digB s.data.toList) := by
            rw [n1, e0]
            simp [fst, h0, hlet, hdig, hz]
          rw [hf]
          have := first_1 s w hs h1 h39 _ L0 T0 (M0 false (by rw [n0]; rfl)) _ L1 T1 (M1 true (by rw [n1, decide_eq_true hz]; simp))
          rwa [bs_take] at this
        · refine none3 (by rw [n0]; rfl) (by rw [n1, decide_eq_false hz]; simp) (by rw [n2]; rfl) ?_
          rw [e0]
          simp [fst, h0, hlet, hdig, hz]
      | false =>
        have n1 : tog digB digB s.data.toList = 0 := by rw [e0]; exact tog_zero hdig
        cases hsig : sigB s[0] with
        | true =>
          have n2 : tog sigB nonB s.data.toList = 1 := by rw [e0, tog_on hsig, none_none]; rfl
          have hf : fst s.data.toList = some (⟨4, s.data.toList.take (tog sigB nonB s.data.toList)⟩, tog sigB nonB s.data.toList) := by
            rw [n2, e0]
            simp [fst, h0, hlet, hdig, hsig]
          rw [hf]
          have := first_2 s w hs h1 h39 _ L0 T0 (M0 false (by rw [n0]; rfl)) _ L1 T1 (M1 false (by rw [n1]; rfl)) _ L2 T2 (M2 true (by rw [n2]; rfl))
          rwa [bs_take] at this
        | false =>
          have n2 : tog sigB nonB s.data.toList = 0 := by rw [e0]; exact tog_zero hsig
          refine none3 (by rw [n0]; rfl) (by rw [n1]; rfl) (by rw [n2]; rfl) ?_
          rw [e0]
          simp [fst, h0, hlet, hdig, hsig]
end Go.Proofs.YtlilnbcklplmfaaGreatDoor
