import Derived.Test.YtchebhdndkaheaaGreatDoorW06
import Derived.Test.YtchebhdndkaheaaGreatDoorW04
import Derived.Deep.RegionWith

/- Tables: is there a check? -/
namespace Go.Proofs.YtchebhdndkaheaaGreatDoor
open Go.RowKit Go.Lib

set_option maxRecDepth 100000 in
set_option maxHeartbeats 4000000 in
theorem efun_none (B : Option Addr) (q d : Nat) (w : World) : Calls Tryz.prog 60 #[.slice B q d, .slice none 0 0, .func (.func 37) #[] #[]] w fun e w' => e = .returned (.bool (decide (q = 0))) ∧ Below w.heap.size w w' := by
  by_cases h : q = 0
  · subst h
    rw [decide_eq_true rfl]
    go_enter Tryz.func60, Tryz.ntmps60
    go_wp2_with (fail)
    refine wp_loop_once ?_
    go_wp2_with (fail)
    go_ret
    exact ⟨rfl, Below.refl _ _⟩
  · rw [decide_eq_false h]
    have q1 : ((q : Int) == 0) = false := by simp [h]
    go_enter Tryz.func60, Tryz.ntmps60
    go_wp2_with (fail)
    go_ret
    exact ⟨rfl, Below.refl _ _⟩
/-- No expression. -/
def noneB (op : ByteArray) (k i : Int) (vs s : ByteArray) (q : Nat) : Bool := decide (op.toList = [] ∧ k = 0 ∧ i = 0 ∧ vs.toList = [] ∧ s.toList = [] ∧ q = 0)
set_option maxRecDepth 100000 in
set_option maxHeartbeats 4000000 in
theorem same_none (op : ByteArray) (k i : Int) (vs s : ByteArray) (B : Option Addr) (q d : Nat) (w : World) : Calls Tryz.prog 37 #[.agg #[.string op, .int .i64 k, .int .i64 i, .string vs, .string s, .slice B q d], .agg #[.string ⟨#[]⟩, .int .i64 0, .int .i64 0, .string ⟨#[]⟩, .string ⟨#[]⟩, .slice none 0 0]] w fun e w' => e = .returned (.bool (noneB op k i vs s q)) ∧ Below w.heap.size w w' := by
  obtain ⟨z, hz⟩ : ∃ z, noneB op k i vs s q = z := ⟨_, rfl⟩
  rw [hz]
  have HZ := Lib.hid hz
  have HQ := Lib.hid (fun W => efun_none B q d W)
  obtain ⟨y, hy⟩ : ∃ y, decide (q = 0) = y := ⟨_, rfl⟩
  rw [hy] at HQ
  have HY := Lib.hid hy
  clear hz hy
  go_enter Tryz.func37, Tryz.ntmps37
  go_wp2_with (go_at_call 60; (with_reducible refine (HQ.out _).mono ?_); rintro e w1 ⟨rfl, hb1⟩; have HB1 := Lib.hid hb1; clear hb1)
  all_goals go_ret
  all_goals first
    | exact ⟨congrArg (fun b => Ending.returned (Value.bool b)) (show y = z from by rw [← HZ.out, ← HY.out]; simp [noneB, *]), ((Below.refl _ _).alloc (Nat.le_refl _) _).trans (((Below.refl _ _).alloc (by simp) _).trans (HB1.out.mono (by simp; omega)))⟩
    | exact ⟨congrArg (fun b => Ending.returned (Value.bool b)) (show false = z from by rw [← HZ.out]; simp [noneB, *]), ((Below.refl _ _).alloc (Nat.le_refl _) _).trans ((Below.refl _ _).alloc (by simp) _)⟩
/-- What is wrong with a table's check. -/
def checkedI (cols : List Cl) (t : Ex) : Int := if noneB t.op t.x.k t.x.i t.x.s t.s t.l.length = true then 0 else if (typT cols t).2 = 0 then (if (typT cols t).1 = 3 ∨ (typT cols t).1 = 0 then 0 else 5) else (typT cols t).2
set_option maxRecDepth 100000 in
set_option maxHeartbeats 4000000 in
theorem checked_any (nm : ByteArray) (A : Option Addr) (n c : Nat) (key : Int) (U : Option Addr) (m cu : Nat) (R : Option Addr) (p cr : Nat) (op : ByteArray) (k i : Int) (vs s : ByteArray) (B : Option Addr) (q d : Nat) (l : List Ex) (hl : l.length = q) (cols : List Cl) (P : Nat → Prop) (N : Nat) (w : World) (hc : ColS w A n cols) (ht : Tr w P N (.mk op ⟨k, i, vs⟩ s l) (.slice B q d)) :
    Calls Tryz.prog 20 #[.agg #[.string nm, .slice A n c, .int .i64 key, .slice U m cu, .slice R p cr, .string op, .int .i64 k, .int .i64 i, .string vs, .string s, .slice B q d]] w fun e w' => e = .returned (.int .i64 (checkedI cols (.mk op ⟨k, i, vs⟩ s l))) ∧ Below w.heap.size w w' := by
  have HS := Lib.hid (fun W => same_none op k i vs s B q d W)
  have HT := Lib.hid (fun (W : World) (hW : Below w.heap.size w W) => etype_any A n c cols P N (.mk op ⟨k, i, vs⟩ s l) (.slice B q d) W (ht.below hW) (hc.below hW))
  have e0 : checkedI cols (.mk op ⟨k, i, vs⟩ s l) = if noneB op k i vs s q = true then 0 else if (typT cols (.mk op ⟨k, i, vs⟩ s l)).2 = 0 then (if (typT cols (.mk op ⟨k, i, vs⟩ s l)).1 = 3 ∨ (typT cols (.mk op ⟨k, i, vs⟩ s l)).1 = 0 then 0 else 5) else (typT cols (.mk op ⟨k, i, vs⟩ s l)).2 := by
    subst hl
    rfl
  rw [e0]
  unfold EVt at HT
  simp only [Ex.op, Ex.x, Ex.s] at HT
  clear e0 hc ht
  generalize noneB op k i vs s q = z at HS ⊢
  generalize typT cols (.mk op ⟨k, i, vs⟩ s l) = R at HT ⊢
  obtain ⟨t1, t2⟩ := R
  dsimp only at HT ⊢
  cases z with
  | true =>
    rw [if_pos rfl]
    go_enter Tryz.func20, Tryz.ntmps20
    go_wp2_with (go_at_call 37; (with_reducible refine (HS.out _).mono ?_); rintro e w1 ⟨rfl, hb1⟩; have HB1 : Hid (Below w.heap.size w w1) := ((Below.refl _ _).alloc (Nat.le_refl _) _).trans (hb1.mono (by simp)); have hc1 := (bcell hb1).1; have hf1 := (bcell hb1).2; have hy1 := hb1.size; (try simp at hy1); have hz1_0 : w.heap.size < w1.heap.size := (by omega))
    go_ret
    exact ⟨rfl, HB1.out⟩
  | false =>
    rw [if_neg (by decide)]
    by_cases h2 : t2 = 0
    · subst h2
      rw [if_pos rfl]
      by_cases h3 : t1 = 3
      · subst h3
        rw [if_pos (.inl rfl)]
        go_enter Tryz.func20, Tryz.ntmps20
        go_wp2_with (first | (go_at_call 37; (with_reducible refine (HS.out _).mono ?_); rintro e w1 ⟨rfl, hb1⟩; have HB1 : Hid (Below w.heap.size w w1) := ((Below.refl _ _).alloc (Nat.le_refl _) _).trans (hb1.mono (by simp)); have hc1 := (bcell hb1).1; have hf1 := (bcell hb1).2; have hy1 := hb1.size; (try simp at hy1); have hz1_0 : w.heap.size < w1.heap.size := (by omega)) | (go_at_call 38; (with_reducible refine (HT.out _ HB1.out).mono ?_); rintro e w2 ⟨rfl, hb2⟩; have HB2 : Hid (Below w.heap.size w w2) := HB1.out.trans (hb2.mono HB1.out.size); clear hb2))
        go_ret
        exact ⟨rfl, HB2.out⟩
      · by_cases h4 : t1 = 0
        · subst h4
          rw [if_pos (.inr rfl)]
          go_enter Tryz.func20, Tryz.ntmps20
          go_wp2_with (first | (go_at_call 37; (with_reducible refine (HS.out _).mono ?_); rintro e w1 ⟨rfl, hb1⟩; have HB1 : Hid (Below w.heap.size w w1) := ((Below.refl _ _).alloc (Nat.le_refl _) _).trans (hb1.mono (by simp)); have hc1 := (bcell hb1).1; have hf1 := (bcell hb1).2; have hy1 := hb1.size; (try simp at hy1); have hz1_0 : w.heap.size < w1.heap.size := (by omega)) | (go_at_call 38; (with_reducible refine (HT.out _ HB1.out).mono ?_); rintro e w2 ⟨rfl, hb2⟩; have HB2 : Hid (Below w.heap.size w w2) := HB1.out.trans (hb2.mono HB1.out.size); clear hb2))
          go_ret
          exact ⟨rfl, HB2.out⟩
        · rw [if_neg (by omega)]
          have q1 : (t1 != 3) = true := by simp [h3]
          have q2 : (t1 != 0) = true := by simp [h4]
          clear h3 h4
          go_enter Tryz.func20, Tryz.ntmps20
          go_wp2_with (first | (go_at_call 37; (with_reducible refine (HS.out _).mono ?_); rintro e w1 ⟨rfl, hb1⟩; have HB1 : Hid (Below w.heap.size w w1) := ((Below.refl _ _).alloc (Nat.le_refl _) _).trans (hb1.mono (by simp)); have hc1 := (bcell hb1).1; have hf1 := (bcell hb1).2; have hy1 := hb1.size; (try simp at hy1); have hz1_0 : w.heap.size < w1.heap.size := (by omega)) | (go_at_call 38; (with_reducible refine (HT.out _ HB1.out).mono ?_); rintro e w2 ⟨rfl, hb2⟩; have HB2 : Hid (Below w.heap.size w w2) := HB1.out.trans (hb2.mono HB1.out.size); clear hb2))
          go_ret
          exact ⟨rfl, HB2.out⟩
    · rw [if_neg h2]
      have q1 : (t2 == 0) = false := by simp [h2]
      clear h2
      go_enter Tryz.func20, Tryz.ntmps20
      go_wp2_with (first | (go_at_call 37; (with_reducible refine (HS.out _).mono ?_); rintro e w1 ⟨rfl, hb1⟩; have HB1 : Hid (Below w.heap.size w w1) := ((Below.refl _ _).alloc (Nat.le_refl _) _).trans (hb1.mono (by simp)); have hc1 := (bcell hb1).1; have hf1 := (bcell hb1).2; have hy1 := hb1.size; (try simp at hy1); have hz1_0 : w.heap.size < w1.heap.size := (by omega)) | (go_at_call 38; (with_reducible refine (HT.out _ HB1.out).mono ?_); rintro e w2 ⟨rfl, hb2⟩; have HB2 : Hid (Below w.heap.size w w2) := HB1.out.trans (hb2.mono HB1.out.size); clear hb2))
      go_ret
      exact ⟨rfl, HB2.out⟩
end Go.Proofs.YtchebhdndkaheaaGreatDoor

/- Tables: which may be. -/
namespace Go.Proofs.YtchebhdndkaheaaGreatDoor
open Go.RowKit Go.Lib

/-- A table's slices read as these. -/
structure TbS (W : World) (nm : ByteArray) (A : Option Addr) (n c : Nat) (key : Int) (U : Option Addr) (m cu : Nat) (R : Option Addr) (p cr : Nat) (op : ByteArray) (k i : Int) (vs s : ByteArray) (B : Option Addr) (q d : Nat) (cols : List Cl) (us : List Int) (rs : List Rf) (l : List Ex) (P : Nat → Prop) (N : Nat) : Prop where
  hcols : ColS W A n cols
  cap : n ≤ c
  hus : IntS W U m us
  hrs : RfS W R p rs
  chk : Tr W P N (.mk op ⟨k, i, vs⟩ s l) (.slice B q d)
  len : l.length = q
  hnm : nm.size ≤ 100000
  nc : ∀ y ∈ cols, y.n.size ≤ 100000
  nr : ∀ y ∈ rs, y.t.size ≤ 100000
theorem TbS.below {W W' : World} {nm : ByteArray} {A : Option Addr} {n c : Nat} {key : Int} {U : Option Addr} {m cu : Nat} {R : Option Addr} {p cr : Nat} {op : ByteArray} {k i : Int} {vs s : ByteArray} {B : Option Addr} {q d : Nat} {cols : List Cl} {us : List Int} {rs : List Rf} {l : List Ex} {P : Nat → Prop} {N : Nat} (h : TbS W nm A n c key U m cu R p cr op k i vs s B q d cols us rs l P N) (hb : Below W.heap.size W W') : TbS W' nm A n c key U m cu R p cr op k i vs s B q d cols us rs l P N :=
  ⟨h.hcols.below hb, h.cap, h.hus.below hb, h.hrs.below hb, h.chk.below hb, h.len, h.hnm, h.nc, h.nr⟩

/-- Is the key a column in which NULL may not be? -/
def keyedB (n : Nat) (key : Int) (l : List Cl) : Bool := (decide (0 ≤ key) && decide (key < n)) && ((l[key.toNat]?).map Cl.b).getD false
set_option maxRecDepth 100000 in
set_option maxHeartbeats 4000000 in
theorem keyed_any (nm : ByteArray) (A : Option Addr) (n c : Nat) (key : Int) (U : Option Addr) (m cu : Nat) (R : Option Addr) (p cr : Nat) (op : ByteArray) (k i : Int) (vs s : ByteArray) (B : Option Addr) (q d : Nat) (cols : List Cl) (w : World) (hc : ColS w A n cols) : Calls Tryz.prog 18 #[.agg #[.string nm, .slice A n c, .int .i64 key, .slice U m cu, .slice R p cr, .string op, .int .i64 k, .int .i64 i, .string vs, .string s, .slice B q d]] w fun e w' => e = .returned (.bool (keyedB n key cols)) ∧ Below w.heap.size w w' := by
  have HH := Lib.hid (fun W => has_any nm A n c key U m cu R p cr op k i vs s B q d key W)
  have hn := hc.2.1
  have hln := hc.1
  unfold maxLen at hn
  unfold keyedB
  by_cases h1 : 0 ≤ key ∧ key < n
  · obtain ⟨x, rfl⟩ := Int.eq_ofNat_of_zero_le h1.1
    have hx : x < cols.length := by omega
    obtain ⟨a, rfl, hE⟩ := hc.2.2 x hx
    have HE := Lib.hid hE
    have hal := hE.lt
    have e0 : decide ((0 : Int) ≤ (x : Int)) = true := decide_eq_true h1.1
    have e1 : decide ((x : Int) < (n : Int)) = true := decide_eq_true h1.2
    have hxn : x < n := by omega
    rw [e0, e1] at HH ⊢
    rw [Bool.and_self] at HH ⊢
    rw [Bool.true_and, Int.toNat_natCast, List.getElem?_eq_getElem hx, Option.map_some, Option.getD_some]
    clear hE hc h1 e0 e1
    generalize cols[x] = y at HE ⊢
    go_enter Tryz.func18, Tryz.ntmps18
    go_wp2_with (go_at_call 32; refine (HH.out _).mono ?_; rintro e w1 ⟨rfl, hb1⟩; have HB1 : Hid (Below w.heap.size w w1) := ((Below.refl _ _).alloc (Nat.le_refl _) _).trans (hb1.mono (by simp)); have HE1 := HE.out.keep (HB1.out.block _ hal); have g0 := HE1.c0; have g1 := HE1.c1; have g2 := HE1.c2; clear HE1; have hc1 := (bcell hb1).1; have hf1 := (bcell hb1).2; have hy1 := hb1.size; (try simp at hy1); have hz1_0 : w.heap.size < w1.heap.size := (by omega))
    go_ret
    exact ⟨rfl, HB1.out⟩
  · have e0 : (decide (0 ≤ key) && decide (key < n)) = false := by
      rcases (show ¬ 0 ≤ key ∨ ¬ key < n by omega) with h | h
      · rw [decide_eq_false h, Bool.false_and]
      · rw [decide_eq_false h, Bool.and_false]
    rw [e0] at HH ⊢
    rw [Bool.false_and]
    clear h1 e0 hc
    go_enter Tryz.func18, Tryz.ntmps18
    go_wp2_with (go_at_call 32; refine (HH.out _).mono ?_; rintro e w1 ⟨rfl, hb1⟩; have HB1 : Hid (Below w.heap.size w w1) := ((Below.refl _ _).alloc (Nat.le_refl _) _).trans (hb1.mono (by simp)); have hc1 := (bcell hb1).1; have hf1 := (bcell hb1).2; have hy1 := hb1.size; (try simp at hy1); have hz1_0 : w.heap.size < w1.heap.size := (by omega))
    go_ret
    exact ⟨rfl, HB1.out⟩

/-- Do the Uniques and Refs say what there may be? -/
def pointedB (n : Nat) (us : List Int) (rs : List Rf) : Bool := !(us.any fun x => !(decide (0 ≤ x) && decide (x < n))) && !rs.any (badRf n)
set_option maxRecDepth 100000 in
set_option maxHeartbeats 4000000 in
theorem pointed_any (nm : ByteArray) (A : Option Addr) (n c : Nat) (key : Int) (U : Option Addr) (m cu : Nat) (R : Option Addr) (p cr : Nat) (op : ByteArray) (k i : Int) (vs s : ByteArray) (B : Option Addr) (q d : Nat) (cols : List Cl) (us : List Int) (rs : List Rf) (l : List Ex) (P : Nat → Prop) (N : Nat) (w : World) (ht : TbS w nm A n c key U m cu R p cr op k i vs s B q d cols us rs l P N) : Calls Tryz.prog 19 #[.agg #[.string nm, .slice A n c, .int .i64 key, .slice U m cu, .slice R p cr, .string op, .int .i64 k, .int .i64 i, .string vs, .string s, .slice B q d]] w fun e w' => e = .returned (.bool (pointedB n us rs)) ∧ Below w.heap.size w w' := by
  have HA : Hid (TbAt (w.alloc (.cells #[.string nm, .slice A n c, .int .i64 key, .slice U m cu, .slice R p cr, .string op, .int .i64 k, .int .i64 i, .string vs, .string s, .slice B q d] 31)) w.heap.size nm A n c key U m cu R p cr op k i vs s B q d) := ⟨by simp [go_sem], by simp [go_sem], by simp [go_sem], by simp [go_sem], by simp [go_sem], by simp [go_sem], by simp [go_sem], by simp [go_sem], by simp [go_sem], by simp [go_sem], by simp [go_sem]⟩
  have H0 : Hid (Below w.heap.size w (w.alloc (.cells #[.string nm, .slice A n c, .int .i64 key, .slice U m cu, .slice R p cr, .string op, .int .i64 k, .int .i64 i, .string vs, .string s, .slice B q d] 31))) := (Below.refl _ _).alloc (Nat.le_refl _) _
  have HT := Lib.hid ht
  have HU := Lib.hid (contains_places U m cu us (fun x => !(decide (0 ≤ x) && decide (x < n))) w.heap.size (w.alloc (.cells #[.string nm, .slice A n c, .int .i64 key, .slice U m cu, .slice R p cr, .string op, .int .i64 k, .int .i64 i, .string vs, .string s, .slice B q d] 31)) (HT.out.hus.below H0.out) (fun x _ W hW => pointed1_any nm A n c key U m cu R p cr op k i vs s B q d x w.heap.size W (HA.out.below hW)))
  have HR : Hid (∀ W, Below (w.alloc (.cells #[.string nm, .slice A n c, .int .i64 key, .slice U m cu, .slice R p cr, .string op, .int .i64 k, .int .i64 i, .string vs, .string s, .slice B q d] 31)).heap.size (w.alloc (.cells #[.string nm, .slice A n c, .int .i64 key, .slice U m cu, .slice R p cr, .string op, .int .i64 k, .int .i64 i, .string vs, .string s, .slice B q d] 31)) W → Calls Tryz.prog 35 #[.slice R p cr, .func (.func 36) #[] #[.pointer (some ⟨w.heap.size, 0, none⟩)]] W fun e w' => e = .returned (.bool (rs.any (badRf n))) ∧ Below W.heap.size W w') :=
    fun W hW => contains_refs R p cr rs (badRf n) w.heap.size W ((HT.out.hrs.below H0.out).below hW) (fun x hx W' hW' => pointed2_any nm A n c key U m cu R p cr op k i vs s B q d x (HT.out.nr x hx) w.heap.size W' ((HA.out.below hW).below hW'))
  unfold pointedB
  clear ht HA H0 HT
  generalize (us.any fun x => !(decide (0 ≤ x) && decide (x < n))) = z1 at HU ⊢
  generalize rs.any (badRf n) = z2 at HR ⊢
  cases z1 with
  | true =>
    rw [Bool.not_true, Bool.false_and]
    go_enter Tryz.func19, Tryz.ntmps19
    go_wp2_with (go_at_call 33; refine HU.out.mono ?_; rintro e w1 ⟨rfl, hb1⟩; have HB1 : Hid (Below w.heap.size w w1) := ((Below.refl _ _).alloc (Nat.le_refl _) _).trans (hb1.mono (by simp)); have hc1 := (bcell hb1).1; have hf1 := (bcell hb1).2; have hy1 := hb1.size; (try simp at hy1); have hz1_0 : w.heap.size < w1.heap.size := (by omega))
    go_ret
    exact ⟨rfl, HB1.out⟩
  | false =>
    rw [Bool.not_false, Bool.true_and]
    go_enter Tryz.func19, Tryz.ntmps19
    go_wp2_with (first | (go_at_call 33; refine HU.out.mono ?_; rintro e w1 ⟨rfl, hb1⟩; have HB1 : Hid (Below w.heap.size w w1) := ((Below.refl _ _).alloc (Nat.le_refl _) _).trans (hb1.mono (by simp)); have hc1 := (bcell hb1).1; have hf1 := (bcell hb1).2; have hy1 := hb1.size; (try simp at hy1); have hz1_0 : w.heap.size < w1.heap.size := (by omega)) | (go_at_call 35; refine (HR.out _ (by first | exact hb1)).mono ?_; rintro e w2 ⟨rfl, hb2⟩; have HB2 : Hid (Below w.heap.size w w2) := HB1.out.trans (hb2.mono HB1.out.size); clear hb2))
    go_ret
    exact ⟨rfl, HB2.out⟩

/-- May a table be? -/
def tableB (n : Nat) (nm : ByteArray) (key : Int) (cols : List Cl) (us : List Int) (rs : List Rf) (t : Ex) : Bool :=
  colB nm && (columnedB n cols && (keyedB n key cols && (pointedB n us rs && decide (checkedI cols t = 0))))
set_option maxRecDepth 100000 in
set_option maxHeartbeats 4000000 in
theorem tmay6_any (nm : ByteArray) (A : Option Addr) (n c : Nat) (key : Int) (U : Option Addr) (m cu : Nat) (R : Option Addr) (p cr : Nat) (op : ByteArray) (k i : Int) (vs s : ByteArray) (B : Option Addr) (q d : Nat) (cols : List Cl) (us : List Int) (rs : List Rf) (l : List Ex) (P : Nat → Prop) (N : Nat) (w : World) (ht : TbS w nm A n c key U m cu R p cr op k i vs s B q d cols us rs l P N) : Calls Tryz.prog 8 #[.agg #[.string nm, .slice A n c, .int .i64 key, .slice U m cu, .slice R p cr, .string op, .int .i64 k, .int .i64 i, .string vs, .string s, .slice B q d]] w fun e w' => e = .returned (.bool (tableB n nm key cols us rs (.mk op ⟨k, i, vs⟩ s l))) ∧ Below w.heap.size w w' := by
  have HN := Lib.hid (fun W => tnamed_any nm ht.hnm W)
  have HC := Lib.hid (fun (W : World) (hW : Below w.heap.size w W) => columned_any A n c cols ht.cap ht.nc W (ht.hcols.below hW))
  have HK := Lib.hid (fun (W : World) (hW : Below w.heap.size w W) => keyed_any nm A n c key U m cu R p cr op k i vs s B q d cols W (ht.hcols.below hW))
  have HP := Lib.hid (fun (W : World) (hW : Below w.heap.size w W) => pointed_any nm A n c key U m cu R p cr op k i vs s B q d cols us rs l P N W (ht.below hW))
  have HX := Lib.hid (fun (W : World) (hW : Below w.heap.size w W) => checked_any nm A n c key U m cu R p cr op k i vs s B q d l ht.len cols P N W (ht.hcols.below hW) (ht.chk.below hW))
  unfold tableB
  clear ht
  generalize colB nm = z1 at HN ⊢
  generalize columnedB n cols = z2 at HC ⊢
  generalize keyedB n key cols = z3 at HK ⊢
  generalize pointedB n us rs = z4 at HP ⊢
  generalize checkedI cols (.mk op ⟨k, i, vs⟩ s l) = z5 at HX ⊢
  cases z1 with
  | false =>
    rw [Bool.false_and]
    go_enter Tryz.func8, Tryz.ntmps8
    go_wp2_with ((go_at_call 16; refine (HN.out _).mono ?_; rintro e w1 ⟨rfl, hb1⟩; have HB1 : Hid (Below w.heap.size w w1) := ((Below.refl _ _).alloc (Nat.le_refl _) _).trans (hb1.mono (by simp)); have hc1 := (bcell hb1).1; have hf1 := (bcell hb1).2; have hy1 := hb1.size; (try simp at hy1); have hz1_0 : w.heap.size < w1.heap.size := (by omega)))
    go_ret
    exact ⟨rfl, HB1.out⟩
  | true =>
    rw [Bool.true_and]
    cases z2 with
    | false =>
      rw [Bool.false_and]
      go_enter Tryz.func8, Tryz.ntmps8
      go_wp2_with (first | (go_at_call 16; refine (HN.out _).mono ?_; rintro e w1 ⟨rfl, hb1⟩; have HB1 : Hid (Below w.heap.size w w1) := ((Below.refl _ _).alloc (Nat.le_refl _) _).trans (hb1.mono (by simp)); have hc1 := (bcell hb1).1; have hf1 := (bcell hb1).2; have hy1 := hb1.size; (try simp at hy1); have hz1_0 : w.heap.size < w1.heap.size := (by omega)) | (go_at_call 17; refine (HC.out _ HB1.out).mono ?_; rintro e w2 ⟨rfl, hb2⟩; have HB2 : Hid (Below w.heap.size w w2) := HB1.out.trans (hb2.mono HB1.out.size); have hc2 := (bcell hb2).1; have hf2 := (bcell hb2).2; have hy2 := hb2.size; have hz2_0 : w.heap.size < w2.heap.size := (by omega); clear hb2))
      go_ret
      exact ⟨rfl, HB2.out⟩
    | true =>
      rw [Bool.true_and]
      cases z3 with
      | false =>
        rw [Bool.false_and]
        go_enter Tryz.func8, Tryz.ntmps8
        go_wp2_with (first | (go_at_call 16; refine (HN.out _).mono ?_; rintro e w1 ⟨rfl, hb1⟩; have HB1 : Hid (Below w.heap.size w w1) := ((Below.refl _ _).alloc (Nat.le_refl _) _).trans (hb1.mono (by simp)); have hc1 := (bcell hb1).1; have hf1 := (bcell hb1).2; have hy1 := hb1.size; (try simp at hy1); have hz1_0 : w.heap.size < w1.heap.size := (by omega)) | (go_at_call 17; refine (HC.out _ HB1.out).mono ?_; rintro e w2 ⟨rfl, hb2⟩; have HB2 : Hid (Below w.heap.size w w2) := HB1.out.trans (hb2.mono HB1.out.size); have hc2 := (bcell hb2).1; have hf2 := (bcell hb2).2; have hy2 := hb2.size; have hz2_0 : w.heap.size < w2.heap.size := (by omega); clear hb2) | (go_at_call 18; refine (HK.out _ HB2.out).mono ?_; rintro e w3 ⟨rfl, hb3⟩; have HB3 : Hid (Below w.heap.size w w3) := HB2.out.trans (hb3.mono HB2.out.size); have hc3 := (bcell hb3).1; have hf3 := (bcell hb3).2; have hy3 := hb3.size; have hz3_0 : w.heap.size < w3.heap.size := (by omega); clear hb3))
        go_ret
        exact ⟨rfl, HB3.out⟩
      | true =>
        rw [Bool.true_and]
        cases z4 with
        | false =>
          rw [Bool.false_and]
          go_enter Tryz.func8, Tryz.ntmps8
          go_wp2_with (first | (go_at_call 16; refine (HN.out _).mono ?_; rintro e w1 ⟨rfl, hb1⟩; have HB1 : Hid (Below w.heap.size w w1) := ((Below.refl _ _).alloc (Nat.le_refl _) _).trans (hb1.mono (by simp)); have hc1 := (bcell hb1).1; have hf1 := (bcell hb1).2; have hy1 := hb1.size; (try simp at hy1); have hz1_0 : w.heap.size < w1.heap.size := (by omega)) | (go_at_call 17; refine (HC.out _ HB1.out).mono ?_; rintro e w2 ⟨rfl, hb2⟩; have HB2 : Hid (Below w.heap.size w w2) := HB1.out.trans (hb2.mono HB1.out.size); have hc2 := (bcell hb2).1; have hf2 := (bcell hb2).2; have hy2 := hb2.size; have hz2_0 : w.heap.size < w2.heap.size := (by omega); clear hb2) | (go_at_call 18; refine (HK.out _ HB2.out).mono ?_; rintro e w3 ⟨rfl, hb3⟩; have HB3 : Hid (Below w.heap.size w w3) := HB2.out.trans (hb3.mono HB2.out.size); have hc3 := (bcell hb3).1; have hf3 := (bcell hb3).2; have hy3 := hb3.size; have hz3_0 : w.heap.size < w3.heap.size := (by omega); clear hb3) | (go_at_call 19; refine (HP.out _ HB3.out).mono ?_; rintro e w4 ⟨rfl, hb4⟩; have HB4 : Hid (Below w.heap.size w w4) := HB3.out.trans (hb4.mono HB3.out.size); have hc4 := (bcell hb4).1; have hf4 := (bcell hb4).2; have hy4 := hb4.size; have hz4_0 : w.heap.size < w4.heap.size := (by omega); clear hb4))
          go_ret
          exact ⟨rfl, HB4.out⟩
        | true =>
          rw [Bool.true_and]
          have e5 : (z5 == 0) = decide (z5 = 0) := by by_cases h : z5 = 0 <;> simp [h]
          generalize decide (z5 = 0) = y at e5 ⊢
          go_enter Tryz.func8, Tryz.ntmps8
          go_wp2_with (first | (go_at_call 16; refine (HN.out _).mono ?_; rintro e w1 ⟨rfl, hb1⟩; have HB1 : Hid (Below w.heap.size w w1) := ((Below.refl _ _).alloc (Nat.le_refl _) _).trans (hb1.mono (by simp)); have hc1 := (bcell hb1).1; have hf1 := (bcell hb1).2; have hy1 := hb1.size; (try simp at hy1); have hz1_0 : w.heap.size < w1.heap.size := (by omega)) | (go_at_call 17; refine (HC.out _ HB1.out).mono ?_; rintro e w2 ⟨rfl, hb2⟩; have HB2 : Hid (Below w.heap.size w w2) := HB1.out.trans (hb2.mono HB1.out.size); have hc2 := (bcell hb2).1; have hf2 := (bcell hb2).2; have hy2 := hb2.size; have hz2_0 : w.heap.size < w2.heap.size := (by omega); clear hb2) | (go_at_call 18; refine (HK.out _ HB2.out).mono ?_; rintro e w3 ⟨rfl, hb3⟩; have HB3 : Hid (Below w.heap.size w w3) := HB2.out.trans (hb3.mono HB2.out.size); have hc3 := (bcell hb3).1; have hf3 := (bcell hb3).2; have hy3 := hb3.size; have hz3_0 : w.heap.size < w3.heap.size := (by omega); clear hb3) | (go_at_call 19; refine (HP.out _ HB3.out).mono ?_; rintro e w4 ⟨rfl, hb4⟩; have HB4 : Hid (Below w.heap.size w w4) := HB3.out.trans (hb4.mono HB3.out.size); have hc4 := (bcell hb4).1; have hf4 := (bcell hb4).2; have hy4 := hb4.size; have hz4_0 : w.heap.size < w4.heap.size := (by omega); clear hb4) | (go_at_call 20; refine (HX.out _ HB4.out).mono ?_; rintro e w5 ⟨rfl, hb5⟩; have HB5 : Hid (Below w.heap.size w w5) := HB4.out.trans (hb5.mono HB4.out.size); have hc5 := (bcell hb5).1; have hf5 := (bcell hb5).2; have hy5 := hb5.size; have hz5_0 : w.heap.size < w5.heap.size := (by omega); clear hb5))
          go_ret
          exact ⟨by first | rfl | rw [e5], HB5.out⟩
end Go.Proofs.YtchebhdndkaheaaGreatDoor

/- Tables: what is wrong with a row. -/
namespace Go.Proofs.YtchebhdndkaheaaGreatDoor
open Go.RowKit Go.Lib

/-- What is wrong with a value in a column. -/
def heldI (y : Cl) (v : Vl) : Int := if v.k = y.t ∨ (v.k = 0 ∧ y.b = false) then 0 else if v.k = 0 then 8 else 5
set_option maxRecDepth 100000 in
set_option maxHeartbeats 4000000 in
theorem held6_any (y : Cl) (v : Vl) (w : World) : Calls Tryz.prog 25 #[.agg #[.string y.n, .int .i64 y.t, .bool y.b], .agg #[.int .i64 v.k, .int .i64 v.i, .string v.s]] w fun e w' => e = .returned (.int .i64 (heldI y v)) ∧ Below w.heap.size w w' := by
  obtain ⟨z, hz⟩ : ∃ z, heldI y v = z := ⟨_, rfl⟩
  rw [hz]
  have HZ := Lib.hid hz
  clear hz
  go_enter Tryz.func25, Tryz.ntmps25
  go_wp2_with (fail)
  all_goals go_ret
  all_goals exact ⟨congrArg (fun b => Ending.returned (Value.int .i64 b)) (show _ = z from by rw [← HZ.out]; clear HZ; first | (simp [heldI, *]; done) | simp_all [heldI]), ((Below.refl _ _).alloc (Nat.le_refl _) _).alloc (by simp) _⟩
def heldF : List Cl → List Vl → Int
  | y :: l, v :: r => if heldI y v = 0 then heldF l r else heldI y v
  | _, _ => 0
def evalT (cols : List Cl) (row : List Vl) (t : Ex) : Vl := if mayT t = true then evalF cols row 12 t else nulV
theorem evalT_any (A : Option Addr) (n c : Nat) (cols : List Cl) (A' : Option Addr) (m c' : Nat) (row : List Vl) (hm : m ≤ maxLen) (P : Nat → Prop) (N : Nat) (t : Ex) (u : Value) (w : World) (ht : Tr w P N t u) (hc : ColS w A n cols) (hv : Vals w w.heap.size A' m row) :
    Calls Tryz.prog 11 #[EVt t u, .slice A n c, .slice A' m c'] w fun e w' => e = .returned (.agg #[.int .i64 (evalT cols row t).k, .int .i64 (evalT cols row t).i, .string (evalT cols row t).s]) ∧ Below w.heap.size w w' := by
  unfold evalT
  cases h : mayT t with
  | true => rw [if_pos rfl]; exact eval_yes A n c cols A' m c' row hm P N t u w ht h hc hv
  | false => rw [if_neg (by decide)]; exact eval_no A n c A' m c' P N t u w ht h
end Go.Proofs.YtchebhdndkaheaaGreatDoor

/- Tables: what is wrong with a row: schema.Fits. -/
namespace Go.Proofs.YtchebhdndkaheaaGreatDoor
open Go.RowKit Go.Lib

def falseB (x : Vl) : Bool := decide (x.k = 3 ∧ x.i = 0 ∧ x.s.toList = [])
/-- What is wrong with a row of m values. -/
def fitsI (n : Nat) (nm : ByteArray) (key : Int) (cols : List Cl) (us : List Int) (rs : List Rf) (t : Ex) (m : Nat) (row : List Vl) : Int :=
  if tableB n nm key cols us rs t = true then (if m = n then (if (row.any fun v => !mayB v.k v.i v.s) = true then 1 else if heldF cols row = 0 then (if falseB (evalT cols row t) = true then 9 else 0) else heldF cols row) else 1) else 1

/-- The box of the table, and what has come since. -/
structure Fbx (w : World) (nm : ByteArray) (A : Option Addr) (n c : Nat) (key : Int) (U : Option Addr) (m cu : Nat) (R : Option Addr) (p cr : Nat) (op : ByteArray) (k i : Int) (vs s : ByteArray) (B : Option Addr) (q d : Nat) (W : World) : Prop where
  below : Below w.heap.size w W
  box : TbAt W w.heap.size nm A n c key U m cu R p cr op k i vs s B q d
theorem Fbx.later {w W W' : World} {nm : ByteArray} {A : Option Addr} {n c : Nat} {key : Int} {U : Option Addr} {m cu : Nat} {R : Option Addr} {p cr : Nat} {op : ByteArray} {k i : Int} {vs s : ByteArray} {B : Option Addr} {q d : Nat} (h : Fbx w nm A n c key U m cu R p cr op k i vs s B q d W) (hb : Below W.heap.size W W') : Fbx w nm A n c key U m cu R p cr op k i vs s B q d W' :=
  ⟨h.below.trans (hb.mono h.below.size), h.box.below hb⟩
set_option maxRecDepth 100000 in
set_option maxHeartbeats 4000000 in
theorem fits_any (nm : ByteArray) (A : Option Addr) (n c : Nat) (key : Int) (U : Option Addr) (m cu : Nat) (R : Option Addr) (p cr : Nat) (op : ByteArray) (k i : Int) (vs s : ByteArray) (B : Option Addr) (q d : Nat) (cols : List Cl) (us : List Int) (rs : List Rf) (l : List Ex) (P : Nat → Prop) (N : Nat) (D : Option Addr) (m2 cv : Nat) (row : List Vl) (hm : m2 ≤ maxLen) (w : World) (ht : TbS w nm A n c key U m cu R p cr op k i vs s B q d cols us rs l P N) (hv : Vals w w.heap.size D m2 row) :
    Calls Tryz.prog 10 #[.agg #[.string nm, .slice A n c, .int .i64 key, .slice U m cu, .slice R p cr, .string op, .int .i64 k, .int .i64 i, .string vs, .string s, .slice B q d], .slice D m2 cv] w fun e w' => e = .returned (.int .i64 (fitsI n nm key cols us rs (.mk op ⟨k, i, vs⟩ s l) m2 row)) ∧ Below w.heap.size w w' := by
  have HA : Hid (TbAt (w.alloc (.cells #[.string nm, .slice A n c, .int .i64 key, .slice U m cu, .slice R p cr, .string op, .int .i64 k, .int .i64 i, .string vs, .string s, .slice B q d] 31)) w.heap.size nm A n c key U m cu R p cr op k i vs s B q d) := ⟨by simp [go_sem], by simp [go_sem], by simp [go_sem], by simp [go_sem], by simp [go_sem], by simp [go_sem], by simp [go_sem], by simp [go_sem], by simp [go_sem], by simp [go_sem], by simp [go_sem]⟩
  have H0 : Hid (Fbx w nm A n c key U m cu R p cr op k i vs s B q d (w.alloc (.cells #[.string nm, .slice A n c, .int .i64 key, .slice U m cu, .slice R p cr, .string op, .int .i64 k, .int .i64 i, .string vs, .string s, .slice B q d] 31))) := ⟨((Below.refl _ _).alloc (Nat.le_refl _) _), HA.out⟩
  have HT := Lib.hid ht
  have HM := Lib.hid (fun (_ : Nat) => tmay6_any nm A n c key U m cu R p cr op k i vs s B q d cols us rs l P N (w.alloc (.cells #[.string nm, .slice A n c, .int .i64 key, .slice U m cu, .slice R p cr, .string op, .int .i64 k, .int .i64 i, .string vs, .string s, .slice B q d] 31)) (ht.below ((Below.refl _ _).alloc (Nat.le_refl _) _)))
  have hv' : ∀ W, Below w.heap.size w W → Vals W W.heap.size D m2 row := fun W hW => (hv.keep hW).more hW.size
  have HR := Lib.hid (fun (W : World) (hW : Below w.heap.size w W) => contains_values D m2 cv row (fun v => !mayB v.k v.i v.s) W (hv' W hW) hm (fun v _ W' _ => fits1_any v W'))
  have HE := Lib.hid (fun (W : World) (hW : Below w.heap.size w W) => evalT_any A n c cols D m2 cv row hm P N (.mk op ⟨k, i, vs⟩ s l) (.slice B q d) W (ht.chk.below hW) (ht.hcols.below hW) (hv' W hW))
  have HV := Lib.hid hv
  unfold EVt at HE
  simp only [Ex.op, Ex.x, Ex.s] at HE
  have hl := ht.len
  have hnc := ht.hcols.1
  have hnm := ht.hcols.2.1
  have hvl := hv.1
  unfold maxLen at hm hnm
  unfold fitsI
  clear ht hv hv'
  generalize (row.any fun v => !mayB v.k v.i v.s) = z3 at HR ⊢
  generalize evalT cols row (.mk op ⟨k, i, vs⟩ s l) = x at HE ⊢
  generalize tableB n nm key cols us rs (.mk op ⟨k, i, vs⟩ s l) = z1 at HM ⊢
  cases z1 with
  | false =>
    rw [if_neg (by decide)]
    go_enter Tryz.func10, Tryz.ntmps10
    go_wp2_with ((go_at_call 8; (with_reducible refine (HM.out 0).mono ?_); rintro e w1 ⟨rfl, hb1⟩; have HB1 := Lib.hid (H0.out.later hb1); have c0 := HB1.out.box.c0; have c1 := HB1.out.box.c1; have c2 := HB1.out.box.c2; have c3 := HB1.out.box.c3; have c4 := HB1.out.box.c4; have c5 := HB1.out.box.c5; have c6 := HB1.out.box.c6; have c7 := HB1.out.box.c7; have c8 := HB1.out.box.c8; have c9 := HB1.out.box.c9; have c10 := HB1.out.box.c10; have hl1 := HB1.out.box.lt; clear hb1))
    go_ret
    exact ⟨rfl, HB1.out.below⟩
  | true =>
    rw [if_pos rfl]
    by_cases h2 : m2 = n
    · subst h2
      rw [if_pos rfl]
      cases z3 with
      | true =>
        rw [if_pos rfl]
        go_enter Tryz.func10, Tryz.ntmps10
        go_wp2_with (first | (go_at_call 8; (with_reducible refine (HM.out 0).mono ?_); rintro e w1 ⟨rfl, hb1⟩; have HB1 := Lib.hid (H0.out.later hb1); have c0 := HB1.out.box.c0; have c1 := HB1.out.box.c1; have c2 := HB1.out.box.c2; have c3 := HB1.out.box.c3; have c4 := HB1.out.box.c4; have c5 := HB1.out.box.c5; have c6 := HB1.out.box.c6; have c7 := HB1.out.box.c7; have c8 := HB1.out.box.c8; have c9 := HB1.out.box.c9; have c10 := HB1.out.box.c10; have hl1 := HB1.out.box.lt; clear hb1) | (go_at_call 22; (with_reducible refine (HR.out _ HB1.out.below).mono ?_); rintro e w2 ⟨rfl, hb2⟩; have HB2 := Lib.hid (HB1.out.later hb2); have c0 := HB2.out.box.c0; have c1 := HB2.out.box.c1; have c2 := HB2.out.box.c2; have c3 := HB2.out.box.c3; have c4 := HB2.out.box.c4; have c5 := HB2.out.box.c5; have c6 := HB2.out.box.c6; have c7 := HB2.out.box.c7; have c8 := HB2.out.box.c8; have c9 := HB2.out.box.c9; have c10 := HB2.out.box.c10; have hl2 := HB2.out.box.lt; clear hb2))
        go_ret
        exact ⟨rfl, HB2.out.below⟩
      | false =>
        rw [if_neg (by decide)]
        obtain ⟨Z, hZ⟩ : ∃ Z, (if heldF cols row = 0 then if falseB x = true then 9 else 0 else heldF cols row) = Z := ⟨_, rfl⟩
        rw [hZ]
        have HZZ := Lib.hid hZ
        clear hZ
        go_enter Tryz.func10, Tryz.ntmps10
        go_wp2_with (first | (go_at_call 8; (with_reducible refine (HM.out 0).mono ?_); rintro e w1 ⟨rfl, hb1⟩; have HB1 := Lib.hid (H0.out.later hb1); have c0 := HB1.out.box.c0; have c1 := HB1.out.box.c1; have c2 := HB1.out.box.c2; have c3 := HB1.out.box.c3; have c4 := HB1.out.box.c4; have c5 := HB1.out.box.c5; have c6 := HB1.out.box.c6; have c7 := HB1.out.box.c7; have c8 := HB1.out.box.c8; have c9 := HB1.out.box.c9; have c10 := HB1.out.box.c10; have hl1 := HB1.out.box.lt; clear hb1) | (go_at_call 22; (with_reducible refine (HR.out _ HB1.out.below).mono ?_); rintro e w2 ⟨rfl, hb2⟩; have HB2 := Lib.hid (HB1.out.later hb2); have c0 := HB2.out.box.c0; have c1 := HB2.out.box.c1; have c2 := HB2.out.box.c2; have c3 := HB2.out.box.c3; have c4 := HB2.out.box.c4; have c5 := HB2.out.box.c5; have c6 := HB2.out.box.c6; have c7 := HB2.out.box.c7; have c8 := HB2.out.box.c8; have c9 := HB2.out.box.c9; have c10 := HB2.out.box.c10; have hl2 := HB2.out.box.lt; clear hb2))
        go_loopw [25] (fun iv wr => ∃ j : Nat, j ≤ m2 ∧ iv = .int .i64 j ∧ Hid (Fbx w nm A m2 c key U m cu R p cr op k i vs s B q d wr) ∧ Hid (heldF cols row = heldF (cols.drop j) (row.drop j))) (fun iv _ => m2 - (intOf iv).toNat)
        case atStart => exact ⟨0, by omega, rfl, HB2, rfl⟩
        case round =>
          obtain ⟨j, hj, rfl, HX, HI⟩ := hrel
          clear c0 c1 c2 c3 c4 c5 c6 c7 c8 c9 c10
          by_cases hlt : j < m2
          · have hjc : j < cols.length := by omega
            have hjr : j < row.length := by omega
            obtain ⟨a, rfl, hE⟩ := HT.out.hcols.2.2 j hjc
            obtain ⟨a2, rfl, hF, hFb⟩ := HV.out.2 j hjr
            have hFb' : (a2.add (j * 3)).block < w.heap.size := by rw [add_block]; exact hFb
            have hF' := hF.keep HX.out.below hFb'
            have hE' := hE.keep (HX.out.below.block _ hE.lt)
            have hEl := hE.lt
            have hzz := HX.out.below.size
            have hbl := HX.out.box.lt
            have hEl' : (a.add (j * 3)).block < wr.heap.size := by omega
            have hFl' : (a2.add (j * 3)).block < wr.heap.size := by omega
            have HDc : Hid (cols.drop j = cols[j] :: cols.drop (j + 1)) := List.drop_eq_getElem_cons hjc
            have HDr : Hid (row.drop j = row[j] :: row.drop (j + 1)) := List.drop_eq_getElem_cons hjr
            have HC := Lib.hid (And.intro hE' hF')
            have HBX := Lib.hid HX.out.box.c1
            clear hE hF hE' hF' hFb
            generalize cols[j] = y at HC HDc
            generalize row[j] = v at HC HDr
            have HH := Lib.hid (fun W => held6_any y v W)
            have HI2 : Hid (heldF cols row = if heldI y v = 0 then heldF (cols.drop (j + 1)) (row.drop (j + 1)) else heldI y v) := Lib.hid (by rw [HI.out, HDc.out, HDr.out]; rfl)
            clear HI
            generalize heldI y v = z at HH HI2
            by_cases hz : z = 0
            · subst hz
              go_upto_region 6 with (fail)
              refine detL_begin [.val (.pointer (some ⟨w.heap.size, 1, none⟩)), .val (.slice (some a) m2 c), .val (.int .i64 j), .val (.pointer (some (a.add (j * 3)))), .val (.agg #[.string y.n, .int .i64 y.t, .bool y.b]), .val (.slice (some a2) m2 cv), .val (.int .i64 j), .val (.pointer (some (a2.add (j * 3)))), .val (.agg #[.int .i64 v.k, .int .i64 v.i, .string v.s]), .val (.int .i64 0), .val (.int .i64 0)] 11 (by kernel_rfl) ?_
              refine detL_val (by kernel_rfl) (yields_of rfl fun w1 hb1 => ?_) ?_
              · skip
                clear hb1
                go_simp
                exact Det1_same
              simp only [Act.put, List.setIfInBounds_toArray, List.set_cons_zero, List.set_cons_succ]
              refine detL_val (by kernel_rfl) (yields_of rfl fun w1 hb1 => ?_) ?_
              · skip
                have m0 := (hb1.cell (p := ⟨w.heap.size, 1, none⟩) hbl).trans HBX.out
                clear hb1
                go_simp
                exact Det1_same
              simp only [Act.put, List.setIfInBounds_toArray, List.set_cons_zero, List.set_cons_succ]
              refine detL_val (by kernel_rfl) (yields_of rfl fun w1 hb1 => ?_) ?_
              · skip
                clear hb1
                go_simp
                exact Det1_same
              simp only [Act.put, List.setIfInBounds_toArray, List.set_cons_zero, List.set_cons_succ]
              refine detL_val (by kernel_rfl) (yields_of rfl fun w1 hb1 => ?_) ?_
              · skip
                clear hb1
                go_simp
                exact Det1_same
              simp only [Act.put, List.setIfInBounds_toArray, List.set_cons_zero, List.set_cons_succ]
              refine detL_val (by kernel_rfl) (yields_of rfl fun w1 hb1 => ?_) ?_
              · skip
                have m1 := HC.out.1.keep (hb1.block _ hEl')
                have m2' := m1.c0
                have m3' := m1.c1
                have m4' := m1.c2
                clear m1
                clear hb1
                go_simp
                exact Det1_same
              simp only [Act.put, List.setIfInBounds_toArray, List.set_cons_zero, List.set_cons_succ]
              refine detL_val (by kernel_rfl) (yields_of rfl fun w1 hb1 => ?_) ?_
              · skip
                clear hb1
                go_simp
                exact Det1_same
              simp only [Act.put, List.setIfInBounds_toArray, List.set_cons_zero, List.set_cons_succ]
              refine detL_val (by kernel_rfl) (yields_of rfl fun w1 hb1 => ?_) ?_
              · skip
                clear hb1
                go_simp
                exact Det1_same
              simp only [Act.put, List.setIfInBounds_toArray, List.set_cons_zero, List.set_cons_succ]
              refine detL_val (by kernel_rfl) (yields_of rfl fun w1 hb1 => ?_) ?_
              · skip
                clear hb1
                go_simp
                exact Det1_same
              simp only [Act.put, List.setIfInBounds_toArray, List.set_cons_zero, List.set_cons_succ]
              refine detL_val (by kernel_rfl) (yields_of rfl fun w1 hb1 => ?_) ?_
              · skip
                have m1 := HC.out.2.keep (show Below wr.heap.size wr w1 from (Below.refl wr.heap.size wr).drew.trans hb1) hFl'
                have m2' := m1.k
                have m3' := m1.i
                have m4' := m1.s
                clear m1
                clear hb1
                go_simp
                exact Det1_same
              simp only [Act.put, List.setIfInBounds_toArray, List.set_cons_zero, List.set_cons_succ]
              refine detL_val (by kernel_rfl) (yields_of rfl fun w1 hb1 => ?_) ?_
              · skip
                clear hb1
                go_simp
                exact Det1_enter (HH.out _)
              simp only [Act.put, List.setIfInBounds_toArray, List.set_cons_zero, List.set_cons_succ]
              refine detL_val (by kernel_rfl) (yields_of rfl fun w1 hb1 => ?_) ?_
              · skip
                clear hb1
                go_simp
                exact Det1_same
              simp only [Act.put, List.setIfInBounds_toArray, List.set_cons_zero, List.set_cons_succ]
              refine detL_done (by kernel_rfl) fun w1 hw1 => ?_
              have HX1 : Hid (Fbx w nm (some a) m2 c key U m cu R p cr op k i vs s B q d w1) := HX.out.later ((Below.refl wr.heap.size wr).drew.trans hw1.below)
              clear hw1
              go_wp2
              go_roundw
              case rel => exact ⟨j + 1, by omega, by go_num, HX1, Lib.hid (by rw [HI2.out, if_pos rfl])⟩
              case measure => simp [intOf]; omega
            · have q1 : (z != 0) = true := by simp [hz]
              have HZ := Lib.hid hz
              clear hz
              go_upto_region 6 with (fail)
              refine detL_begin [.val (.pointer (some ⟨w.heap.size, 1, none⟩)), .val (.slice (some a) m2 c), .val (.int .i64 j), .val (.pointer (some (a.add (j * 3)))), .val (.agg #[.string y.n, .int .i64 y.t, .bool y.b]), .val (.slice (some a2) m2 cv), .val (.int .i64 j), .val (.pointer (some (a2.add (j * 3)))), .val (.agg #[.int .i64 v.k, .int .i64 v.i, .string v.s]), .val (.int .i64 z), .val (.int .i64 z)] 11 (by kernel_rfl) ?_
              refine detL_val (by kernel_rfl) (yields_of rfl fun w1 hb1 => ?_) ?_
              · skip
                clear hb1
                go_simp
                exact Det1_same
              simp only [Act.put, List.setIfInBounds_toArray, List.set_cons_zero, List.set_cons_succ]
              refine detL_val (by kernel_rfl) (yields_of rfl fun w1 hb1 => ?_) ?_
              · skip
                have m0 := (hb1.cell (p := ⟨w.heap.size, 1, none⟩) hbl).trans HBX.out
                clear hb1
                go_simp
                exact Det1_same
              simp only [Act.put, List.setIfInBounds_toArray, List.set_cons_zero, List.set_cons_succ]
              refine detL_val (by kernel_rfl) (yields_of rfl fun w1 hb1 => ?_) ?_
              · skip
                clear hb1
                go_simp
                exact Det1_same
              simp only [Act.put, List.setIfInBounds_toArray, List.set_cons_zero, List.set_cons_succ]
              refine detL_val (by kernel_rfl) (yields_of rfl fun w1 hb1 => ?_) ?_
              · skip
                clear hb1
                go_simp
                exact Det1_same
              simp only [Act.put, List.setIfInBounds_toArray, List.set_cons_zero, List.set_cons_succ]
              refine detL_val (by kernel_rfl) (yields_of rfl fun w1 hb1 => ?_) ?_
              · skip
                have m1 := HC.out.1.keep (hb1.block _ hEl')
                have m2' := m1.c0
                have m3' := m1.c1
                have m4' := m1.c2
                clear m1
                clear hb1
                go_simp
                exact Det1_same
              simp only [Act.put, List.setIfInBounds_toArray, List.set_cons_zero, List.set_cons_succ]
              refine detL_val (by kernel_rfl) (yields_of rfl fun w1 hb1 => ?_) ?_
              · skip
                clear hb1
                go_simp
                exact Det1_same
              simp only [Act.put, List.setIfInBounds_toArray, List.set_cons_zero, List.set_cons_succ]
              refine detL_val (by kernel_rfl) (yields_of rfl fun w1 hb1 => ?_) ?_
              · skip
                clear hb1
                go_simp
                exact Det1_same
              simp only [Act.put, List.setIfInBounds_toArray, List.set_cons_zero, List.set_cons_succ]
              refine detL_val (by kernel_rfl) (yields_of rfl fun w1 hb1 => ?_) ?_
              · skip
                clear hb1
                go_simp
                exact Det1_same
              simp only [Act.put, List.setIfInBounds_toArray, List.set_cons_zero, List.set_cons_succ]
              refine detL_val (by kernel_rfl) (yields_of rfl fun w1 hb1 => ?_) ?_
              · skip
                have m1 := HC.out.2.keep (show Below wr.heap.size wr w1 from (Below.refl wr.heap.size wr).drew.trans hb1) hFl'
                have m2' := m1.k
                have m3' := m1.i
                have m4' := m1.s
                clear m1
                clear hb1
                go_simp
                exact Det1_same
              simp only [Act.put, List.setIfInBounds_toArray, List.set_cons_zero, List.set_cons_succ]
              refine detL_val (by kernel_rfl) (yields_of rfl fun w1 hb1 => ?_) ?_
              · skip
                clear hb1
                go_simp
                exact Det1_enter (HH.out _)
              simp only [Act.put, List.setIfInBounds_toArray, List.set_cons_zero, List.set_cons_succ]
              refine detL_val (by kernel_rfl) (yields_of rfl fun w1 hb1 => ?_) ?_
              · skip
                clear hb1
                go_simp
                exact Det1_same
              simp only [Act.put, List.setIfInBounds_toArray, List.set_cons_zero, List.set_cons_succ]
              refine detL_done (by kernel_rfl) fun w1 hw1 => ?_
              have HX1 : Hid (Fbx w nm (some a) m2 c key U m cu R p cr op k i vs s B q d w1) := HX.out.later ((Below.refl wr.heap.size wr).drew.trans hw1.below)
              clear hw1
              go_wp2
              go_ret
              exact ⟨congrArg (fun b => Ending.returned (Value.int .i64 b)) (show z = Z from by rw [← HZZ.out, HI2.out, if_neg HZ.out, if_neg HZ.out]), HX1.out.below⟩
          · have hjm : m2 = j := by omega
            subst hjm
            have H00 : heldF cols row = 0 := by rw [HI.out, List.drop_of_length_le (by omega), List.drop_of_length_le (by omega)]; rfl
            have HZ2 : Hid ((if falseB x = true then 9 else 0) = Z) := by
              have := HZZ.out
              rw [H00, if_pos rfl] at this
              exact this
            have HEX := Lib.hid (HE.out wr HX.out.below)
            have c0 := HX.out.box.c0; have c1 := HX.out.box.c1; have c2 := HX.out.box.c2; have c3 := HX.out.box.c3; have c4 := HX.out.box.c4; have c5 := HX.out.box.c5; have c6 := HX.out.box.c6; have c7 := HX.out.box.c7; have c8 := HX.out.box.c8; have c9 := HX.out.box.c9; have c10 := HX.out.box.c10
            have hbl := HX.out.box.lt
            clear H00 HZZ HI
            go_wp2_with (go_at_call 11; (with_reducible refine HEX.out.mono ?_); rintro e w3 ⟨rfl, hb3⟩; have HB3 : Hid (Below w.heap.size w w3) := HX.out.below.trans (hb3.mono HX.out.below.size); clear hb3)
            all_goals go_ret
            all_goals exact ⟨congrArg (fun b => Ending.returned (Value.int .i64 b)) (show _ = Z from by rw [← HZ2.out]; simp [falseB, *]), HB3.out⟩
    · rw [if_neg h2]
      have q1 : ((m2 : Int) != (n : Int)) = true := by simp; omega
      go_enter Tryz.func10, Tryz.ntmps10
      go_wp2_with ((go_at_call 8; (with_reducible refine (HM.out 0).mono ?_); rintro e w1 ⟨rfl, hb1⟩; have HB1 := Lib.hid (H0.out.later hb1); have c0 := HB1.out.box.c0; have c1 := HB1.out.box.c1; have c2 := HB1.out.box.c2; have c3 := HB1.out.box.c3; have c4 := HB1.out.box.c4; have c5 := HB1.out.box.c5; have c6 := HB1.out.box.c6; have c7 := HB1.out.box.c7; have c8 := HB1.out.box.c8; have c9 := HB1.out.box.c9; have c10 := HB1.out.box.c10; have hl1 := HB1.out.box.lt; clear hb1))
      go_ret
      exact ⟨rfl, HB1.out.below⟩

end Go.Proofs.YtchebhdndkaheaaGreatDoor

/- The token with which a text begins. -/
namespace Go.Proofs.YtchebhdndkaheaaGreatDoor
open Go.RowKit Go.Lib

theorem qN_some {s : ByteArray} {x r : List UInt8} (h1 : 1 ≤ s.size) (h : qscan (s.data.toList.drop 1) = some (x, r)) : qN s.size (s.data.toList.drop 1) = s.size - r.length ∧ r.length + 2 ≤ s.size := by
  obtain ⟨h2, _⟩ := qscan_some _ _ _ _ (Nat.le_refl _) h
  have h3 := congrArg List.length h2
  rw [List.length_drop, ← Lib.size_eq] at h3
  simp at h3
  unfold qN
  rw [h]
  exact ⟨rfl, by omega⟩
theorem take_list (s : ByteArray) (n : Nat) : (s.extract 0 n).data.toList = s.data.toList.take n := by
  simp [ByteArray.extract, ByteArray.data_append, ByteArray.copySlice]
/-- The octets of a text in quotes are a value's text just if the text is one that may be. -/
theorem quote_txt (x : List UInt8) (h : mayB 2 0 ⟨x.toArray⟩ = true) : txtO 2 0 ⟨x.toArray⟩ = 39 :: (dbl x ++ [39]) := by
  unfold txtO
  rw [h]
  simp
theorem quote_only {x : List UInt8} {k i : Int} {S : ByteArray} (hm : mayB k i S = true) (h : txtO k i S = 39 :: (dbl x ++ [39])) : mayB 2 0 ⟨x.toArray⟩ = true := by
  cases four k i S hm with
  | null hk hi hs ht => rw [ht] at h; simp at h
  | num hk hs ht =>
    rw [ht] at h
    exact absurd h (itoa_no (by decide) (.inl (by decide)))
  | text hk hi hz hc ht =>
    rw [ht] at h
    have e := dbl_inj _ _ (List.append_cancel_right (List.cons.inj h).2)
    rw [← e, hk.symm, ← hi]
    simpa using hm
  | no hk hi hs ht => rw [ht] at h; simp at h
  | yes hk hi hs ht => rw [ht] at h; simp at h
theorem quote_cut {s : ByteArray} {x r : List UInt8} (h1 : 1 ≤ s.size) (h0 : s[0] = 39) (h : qscan (s.data.toList.drop 1) = some (x, r)) : (s.extract 0 (s.size - r.length)).data.toList = 39 :: (dbl x ++ [39]) := by
  obtain ⟨h2, _⟩ := qscan_some _ _ _ _ (Nat.le_refl _) h
  have h3 : 0 < s.data.toList.length := by rw [← Lib.size_eq]; omega
  have h4 : s.data.toList = 39 :: (dbl x ++ 39 :: r) := by
    rw [← h2, ← h0]
    exact (List.drop_eq_getElem_cons h3)
  rw [take_list, Lib.size_eq, h4]
  have e : (39 :: (dbl x ++ 39 :: r) : List UInt8) = (39 :: (dbl x ++ [39])) ++ r := by simp
  rw [e, List.take_append_of_le_length (by simp; omega), List.take_of_length_le (by simp; omega)]

set_option maxRecDepth 100000 in
set_option maxHeartbeats 800000 in
theorem fs_yes (s : ByteArray) (w : World) (h1 : 1 ≤ s.size) (hs : s.size ≤ 100000) (h0 : s[0] = 39) (hl : LibE w) (n : Nat) (x r : List UInt8) (hq : qscan (s.data.toList.drop 1) = some (x, r)) (hm : mayB 2 0 ⟨x.toArray⟩ = true) (hn : n = s.size - r.length) :
    Calls Tryz.prog 143 #[.string s] w fun e w' => e = .returned (.tuple #[.agg #[.int .i64 3, .string ⟨x.toArray⟩], .int .i64 n]) ∧ Below w.heap.size w w' := by
  have HL := Lib.hid hl
  obtain ⟨e1, e2⟩ := qN_some h1 hq
  have HQ := Lib.hid (fun (W : World) => (show Calls Tryz.prog 167 #[.string s] W fun e w' => e = .returned (.int .i64 n) ∧ Below W.heap.size W w' by
    have := quoted_any s W h1 hs
    rw [e1, ← hn] at this
    exact this))
  have HP := Lib.hid (fun (W : World) (h : LibE W) => vparse_ok 2 0 ⟨x.toArray⟩ (s.extract 0 n) W hm (by rw [quote_txt x hm, hn, quote_cut h1 h0 hq]) in64_0 (by rw [ByteArray.size_extract]; omega) h)
  have hle : (n : Int) ≤ (s.size : Int) := by omega
  have hle2 : n ≤ s.size := by omega
  clear hq hm hn e1 e2 h0
  clear hl
  go_enter Tryz.func143, Tryz.ntmps143
  go_wp2_with (first
    | (go_at_call 167; refine (HQ.out _).mono ?_; rintro e w1 ⟨rfl, hb1⟩; have hc1 := (bcell hb1).1; have hf1 := (bcell hb1).2; have hy1 := hb1.size; (try simp at hy1); have hz1_0 : w.heap.size < w1.heap.size := (by omega); have hx1 : w.heap.size < w1.heap.size + 1 := (by omega); have hx2 : ¬ w.heap.size = w1.heap.size := (by omega))
    | (go_at_call 168; refine (HP.out _ (HL.out.keep (by repeat (first | (with_reducible exact Below.refl _ _) | ((with_reducible refine cSet3 ?_ ?_ _ _ _); (· ((try simp) <;> omega))) | (with_reducible refine Below.drew ?_) | ((with_reducible refine cAlloc ?_ ?_ _); (· ((try simp) <;> omega))) | ((with_reducible refine cOn (by assumption) ?_ ?_); (· ((try simp) <;> omega))))) (Nat.le_refl _))).mono ?_; rintro e w2 ⟨rfl, hb2⟩; have hc2 := (bcell hb2).1; have hf2 := (bcell hb2).2; have hy2 := hb2.size; (try simp at hy2); have hz2_0 : w.heap.size < w2.heap.size := (by omega)))
  refine bodyPost_ret (v := .tuple #[.agg #[.int .i64 3, .string ⟨x.toArray⟩], .int .i64 n]) ?_ rfl ⟨rfl, ?_⟩
  · (simp [results, Tryz.results143, go_sem, *]; done)
  repeat (first | (with_reducible exact Below.refl _ _) | ((with_reducible refine cSet1 ?_ ?_ _ _); (· ((try simp) <;> omega))) | (with_reducible refine Below.drew ?_) | ((with_reducible refine cAlloc ?_ ?_ _); (· ((try simp) <;> omega))) | ((with_reducible refine cOn (by assumption) ?_ ?_); (· ((try simp) <;> omega))))

set_option maxRecDepth 100000 in
set_option maxHeartbeats 800000 in
theorem fs_bad (s : ByteArray) (w : World) (h1 : 1 ≤ s.size) (hs : s.size ≤ 100000) (h0 : s[0] = 39) (hl : LibE w) (n : Nat) (hn : n = qN s.size (s.data.toList.drop 1)) (hle2 : n ≤ s.size) (hno : ∀ k i S, In64 i → mayB k i S = true → txtO k i S ≠ (s.extract 0 n).data.toList) :
    Calls Tryz.prog 143 #[.string s] w fun e w' => e = .returned (.tuple #[.agg #[.int .i64 0, .string ⟨#[]⟩], .int .i64 0]) ∧ Below w.heap.size w w' := by
  have HL := Lib.hid hl
  have HQ := Lib.hid (fun (W : World) => (show Calls Tryz.prog 167 #[.string s] W fun e w' => e = .returned (.int .i64 n) ∧ Below W.heap.size W w' by
    have := quoted_any s W h1 hs
    rw [← hn] at this
    exact this))
  have HP := Lib.hid (fun (W : World) (h : LibE W) => vparse_no (s.extract 0 n) W hno (by rw [ByteArray.size_extract]; omega) h)
  have hle : (n : Int) ≤ (s.size : Int) := by omega
  clear hno hn h0
  clear hl
  go_enter Tryz.func143, Tryz.ntmps143
  go_wp2_with (first
    | (go_at_call 167; refine (HQ.out _).mono ?_; rintro e w1 ⟨rfl, hb1⟩; have hc1 := (bcell hb1).1; have hf1 := (bcell hb1).2; have hy1 := hb1.size; (try simp at hy1); have hz1_0 : w.heap.size < w1.heap.size := (by omega); have hx1 : w.heap.size < w1.heap.size + 1 := (by omega); have hx2 : ¬ w.heap.size = w1.heap.size := (by omega))
    | (go_at_call 168; refine (HP.out _ (HL.out.keep (by repeat (first | (with_reducible exact Below.refl _ _) | ((with_reducible refine cSet3 ?_ ?_ _ _ _); (· ((try simp) <;> omega))) | (with_reducible refine Below.drew ?_) | ((with_reducible refine cAlloc ?_ ?_ _); (· ((try simp) <;> omega))) | ((with_reducible refine cOn (by assumption) ?_ ?_); (· ((try simp) <;> omega))))) (Nat.le_refl _))).mono ?_; rintro e w2 ⟨rfl, hb2⟩; have hc2 := (bcell hb2).1; have hf2 := (bcell hb2).2; have hy2 := hb2.size; (try simp at hy2); have hz2_0 : w.heap.size < w2.heap.size := (by omega)))
  refine bodyPost_ret (v := .tuple #[.agg #[.int .i64 0, .string ⟨#[]⟩], .int .i64 0]) ?_ rfl ⟨rfl, ?_⟩
  · (simp [results, Tryz.results143, go_sem, *]; done)
  repeat (first | (with_reducible exact Below.refl _ _) | ((with_reducible refine cSet1 ?_ ?_ _ _); (· ((try simp) <;> omega))) | (with_reducible refine Below.drew ?_) | ((with_reducible refine cAlloc ?_ ?_ _); (· ((try simp) <;> omega))) | ((with_reducible refine cOn (by assumption) ?_ ?_); (· ((try simp) <;> omega))))

theorem no_text_nil : ∀ k i S, In64 i → mayB k i S = true → txtO k i S ≠ [] := by
  intro k i S hi hm e
  cases four k i S hm with
  | null hk hi hs ht => rw [ht] at e; cases e
  | num hk hs ht => obtain ⟨c, l, e1, _⟩ := itoa_head i; rw [ht, e1] at e; cases e
  | text hk hi hz hc ht => rw [ht] at e; cases e
  | no hk hi hs ht => rw [ht] at e; cases e
  | yes hk hi hs ht => rw [ht] at e; cases e
/-- What the document of tokens says of a text's beginning, as the program hands it on. -/
def tkV (t : Option (Tk × Nat)) : Value := match t with
  | none => .tuple #[.agg #[.int .i64 0, .string ⟨#[]⟩], .int .i64 0]
  | some (t, n) => .tuple #[.agg #[.int .i64 t.k, .string ⟨t.s.toArray⟩], .int .i64 n]
theorem list_head {s : ByteArray} (h : 0 < s.size) : ∃ r, s.data.toList = s[0] :: r ∧ r = s.data.toList.drop 1 := by
  have h3 : 0 < s.data.toList.length := by rw [← Lib.size_eq]; omega
  exact ⟨_, (List.drop_eq_getElem_cons h3), rfl⟩
theorem firstString_any (s : ByteArray) (w : World) (h1 : 1 ≤ s.size) (hs : s.size ≤ 100000) (h0 : s[0] = 39) (hl : LibE w) :
    Calls Tryz.prog 143 #[.string s] w fun e w' => e = .returned (tkV (fst s.data.toList)) ∧ Below w.heap.size w w' := by
  obtain ⟨r0, e0, er⟩ := list_head h1
  rw [h0] at e0
  have e1 : fst s.data.toList = match qscan (s.data.toList.drop 1) with
      | none => none
      | some (x, t) => if mayB 2 0 ⟨x.toArray⟩ then some (⟨3, x⟩, s.size - t.length) else none := by
    rw [Lib.size_eq, e0]
    simp [fst]
    cases qscan r0 <;> rfl
  cases hq : qscan (s.data.toList.drop 1) with
  | none =>
    rw [hq] at e1
    rw [e1]
    have hz : qN s.size (s.data.toList.drop 1) = 0 := by unfold qN; rw [hq]
    exact fs_bad s w h1 hs h0 hl 0 hz.symm (by omega) (by rw [take_list]; simpa using no_text_nil)
  | some y =>
    obtain ⟨x, r⟩ := y
    rw [hq] at e1
    simp only at e1
    cases hm : mayB 2 0 ⟨x.toArray⟩ with
    | true =>
      rw [hm] at e1
      rw [e1]
      exact fs_yes s w h1 hs h0 hl _ x r hq hm rfl
    | false =>
      rw [hm] at e1
      rw [e1]
      obtain ⟨q1, q2⟩ := qN_some h1 hq
      refine fs_bad s w h1 hs h0 hl (s.size - r.length) q1.symm (by omega) fun k i S hi hmm e => ?_
      rw [quote_cut h1 h0 hq] at e
      rw [quote_only hmm e] at hm
      cases hm

end Go.Proofs.YtchebhdndkaheaaGreatDoor
