import Derived.Test.YtnahejljelbbgaaCd
import Derived.LoopTactic
/- Rows of values in memory: Few. -/
namespace Go.Proofs.Ytnahejljelbbgaa
open Go.RowKit Go.Lib

structure Vl where
  k : Int
  i : Int
  s : ByteArray
def Vl.few (x : Vl) : Vl := ⟨x.k, x.i, fewS x.s⟩
def Vl.cells (x : Vl) : List Value := [.int .i64 x.k, .int .i64 x.i, .string x.s]
def cellsOf (l : List Vl) : List Value := l.flatMap Vl.cells

/-- Value x lies at this address. -/
structure VlAt (W : World) (a : Addr) (x : Vl) : Prop where
  k : W.cell? a = some (.int .i64 x.k)
  i : W.cell? ⟨a.block, a.off + 1, none⟩ = some (.int .i64 x.i)
  s : W.cell? ⟨a.block, a.off + 2, none⟩ = some (.string x.s)

theorem VlAt.keep {W W' : World} {a : Addr} {x : Vl} {B : Nat} (h : VlAt W a x) (hb : Below B W W') (hB : a.block < B) : VlAt W' a x :=
  ⟨(hb.cell hB).trans h.k, (hb.cell (p := ⟨a.block, _, none⟩) hB).trans h.i, (hb.cell (p := ⟨a.block, _, none⟩) hB).trans h.s⟩

/-- The slice of n elements at A reads as these values; it lies below block B. -/
def Vals (W : World) (B : Nat) (A : Option Addr) (n : Nat) (l : List Vl) : Prop :=
  l.length = n ∧ ∀ j (h : j < l.length), ∃ a, A = some a ∧ VlAt W (a.add (j * 3)) l[j] ∧ a.block < B

theorem add_block (a : Addr) (n : Nat) : (a.add n).block = a.block := by unfold Addr.add; split <;> rfl
theorem Vals.keep {W W' : World} {B : Nat} {A : Option Addr} {n : Nat} {l : List Vl} (h : Vals W B A n l) (hb : Below B W W') : Vals W' B A n l :=
  ⟨h.1, fun j hj => by
    obtain ⟨a, e, h1, h2⟩ := h.2 j hj
    exact ⟨a, e, h1.keep hb (by rw [add_block]; exact h2), h2⟩⟩
theorem Vals.more {W : World} {B B' : Nat} {A : Option Addr} {n : Nat} {l : List Vl} (h : Vals W B A n l) (hB : B ≤ B') : Vals W B' A n l :=
  ⟨h.1, fun j hj => by
    obtain ⟨a, e, h1, h2⟩ := h.2 j hj
    exact ⟨a, e, h1, by omega⟩⟩
theorem Vals.at_ {W : World} {B : Nat} {A : Option Addr} {n : Nat} {l : List Vl} (h : Vals W B A n l) {k : Nat} (hk : k < n) : ∃ a x, A = some a ∧ l[k]? = some x ∧ VlAt W (a.add (k * 3)) x ∧ a.block < B := by
  obtain ⟨h1, h2⟩ := h
  obtain ⟨a, e, h3, h4⟩ := h2 k (by omega)
  exact ⟨a, l[k]'(by omega), e, List.getElem?_eq_getElem _, h3, h4⟩

theorem cells_len (l : List Vl) : (cellsOf l).length = l.length * 3 := by
  induction l with
  | nil => rfl
  | cons x l ih => simp only [cellsOf, List.flatMap_cons, List.length_append] at ih ⊢; rw [ih]; simp [Vl.cells]; omega
theorem cells_snoc (l : List Vl) (x : Vl) : cellsOf (l ++ [x]) = cellsOf l ++ x.cells := by simp [cellsOf]
theorem cells_app (l r : List Vl) : cellsOf (l ++ r) = cellsOf l ++ cellsOf r := by simp [cellsOf]
theorem cells_at (l : List Vl) : ∀ j (h : j < l.length), (cellsOf l)[j * 3]? = some (.int .i64 l[j].k) ∧ (cellsOf l)[j * 3 + 1]? = some (.int .i64 l[j].i) ∧ (cellsOf l)[j * 3 + 2]? = some (.string l[j].s) := by
  induction l with
  | nil => intro j h; simp at h
  | cons x l ih =>
    intro j h
    cases j with
    | zero => simp [cellsOf, Vl.cells]
    | succ j =>
      have := ih j (by simpa using h)
      have e : cellsOf (x :: l) = x.cells ++ cellsOf l := by simp [cellsOf]
      have hl : x.cells.length = 3 := rfl
      rw [e]
      refine ⟨?_, ?_, ?_⟩
      · rw [List.getElem?_append_right (by rw [hl]; omega), hl, show (j + 1) * 3 - 3 = j * 3 by omega]; exact this.1
      · rw [List.getElem?_append_right (by rw [hl]; omega), hl, show (j + 1) * 3 + 1 - 3 = j * 3 + 1 by omega]; exact this.2.1
      · rw [List.getElem?_append_right (by rw [hl]; omega), hl, show (j + 1) * 3 + 2 - 3 = j * 3 + 2 by omega]; exact this.2.2
theorem cells_one (l : List Vl) : ∀ u ∈ cellsOf l, u.oneCell' = true := by
  intro u hu
  simp only [cellsOf, List.mem_flatMap, Vl.cells] at hu
  obtain ⟨x, _, hx⟩ := hu
  simp at hx
  rcases hx with rfl | rfl | rfl <;> rfl

/-- A row of the call's own reads as its values. -/
theorem Vals.of_own {W : World} {B : Nat} {v : Value} {l : List Vl} {n : Nat} (h : W.ownsRow B 31 3 v n (cellsOf l)) : ∃ A cap, v = .slice A n cap ∧ Vals W W.heap.size A n l ∧ n ≤ cap ∧ cap ≤ maxLen := by
  have hl : l.length = n := by have := h.1; rw [cells_len] at this; omega
  rcases h.2 with ⟨rfl, h0⟩ | ⟨g, cap, cur, rfl, hB, hg, hc, hm, hs, ht⟩
  · subst h0
    exact ⟨none, 0, rfl, ⟨hl, fun j hj => absurd hj (by omega)⟩, Nat.le_refl _, by unfold maxLen; omega⟩
  · refine ⟨_, cap, rfl, ⟨hl, fun j hj => ⟨_, rfl, ?_, (Array.getElem?_eq_some_iff.1 hg).1⟩⟩, hc, hm⟩
    have hadd : (⟨g, 0, none⟩ : Addr).add (j * 3) = ⟨g, j * 3, none⟩ := by unfold Addr.add; split <;> simp_all
    obtain ⟨c0, c1, c2⟩ := cells_at l j hj
    rw [hadd]
    exact ⟨(h.cellAt (j * 3) (by omega)).trans c0, (h.cellAt (j * 3 + 1) (by omega)).trans c1, (h.cellAt (j * 3 + 2) (by omega)).trans c2⟩

theorem infoVal : (Try.prog.info? 31).map (fun i => (i.zero, i.size, i.bytes)) = some (some (.agg #[.int .i64 0, .int .i64 0, .string ⟨#[]⟩]), 3, 32) := by kernel_rfl

/-- The cells of a value that has just been written. -/
theorem new_cells {W : World} {t : TypeId} {x : Vl} : ∀ j u, x.cells[j]? = some u → (W.alloc (.cells #[.int .i64 x.k, .int .i64 x.i, .string x.s] t)).cell? ((⟨W.heap.size, 0, none⟩ : Addr).add j) = some u := by
  intro j u h
  match j with
  | 0 => simp [Vl.cells] at h; subst h; simp [Addr.add, go_sem]
  | 1 => simp [Vl.cells] at h; subst h; simp [Addr.add, go_sem]
  | 2 => simp [Vl.cells] at h; subst h; simp [Addr.add, go_sem]
  | j + 3 => simp [Vl.cells] at h
theorem row_below {B : Nat} {w W W' : World} {n : Nat} {xs : List Value} {v : Value} {o : Obj} (hb : Below B w W) (hB : B ≤ w.heap.size) (hown : W.ownsRow B 31 3 v n xs) (hg : (W.alloc o).grownBy W' v.ownBlock) : Below B w W' := by
  have hs := hb.size
  exact (hb.alloc (by omega) o).grown hg (by simp; omega) fun g hg' => (hown.lt g hg').1
theorem take_snoc' {α : Type} {l : List α} {k : Nat} {x : α} (h : l[k]? = some x) : l.take (k + 1) = l.take k ++ [x] := by
  rw [List.take_add_one, h]; rfl

def fewL (l : List Vl) : List Vl := (l.take 14).map Vl.few

set_option maxRecDepth 100000 in
set_option maxHeartbeats 4000000 in
theorem few2_any (A : Option Addr) (n cap : Nat) (l : List Vl) (w : World) (hn : n ≤ maxLen) (hat : Vals w w.heap.size A n l) (hsz : ∀ x ∈ l, x.s.size ≤ maxLen) :
    Calls Try.prog 4 #[.slice A n cap] w fun e w' => ∃ v, e = .returned v ∧ w'.ownsRow w.heap.size 31 3 v (fewL l).length (cellsOf (fewL l)) ∧ Below w.heap.size w w' := by
  unfold maxLen at hn
  obtain ⟨i0, hi, hz0, hz1, hz2⟩ := info_parts infoVal
  have HS := Lib.hid (And.intro hat hsz)
  have hll := hat.1
  clear hat hsz
  have HL := Lib.hid hll
  clear hll
  go_enter Try.func4, Try.ntmps4
  go_wp2
  go_loopw [3, 4] (fun v i wr => ∃ k : Nat, k ≤ n ∧ k ≤ 14 ∧ i = .int .i64 k ∧ Below w.heap.size w wr ∧ wr.ownsRow w.heap.size 31 3 v k (cellsOf ((l.take k).map Vl.few))) (fun _ i _ => n - (intOf i).toNat)
  case atStart => exact ⟨0, by omega, by omega, rfl, Below.refl _ _, World.ownsRow_nil _ _ _ _⟩
  case round =>
    obtain ⟨k, hk, hk14, rfl, hb, hown⟩ := hrel
    have hbs := hb.size
    by_cases hlt : k < n
    · by_cases h14 : k < 14
      · have hd1 : decide ((k : Int) < 14) = true := decide_eq_true (by omega)
        obtain ⟨a, x, rfl, hx, hA, hB⟩ := HS.out.1.at_ hlt
        have hA' := hA.keep hb (by rw [add_block]; exact hB)
        have hxs : x.s.size ≤ maxLen := HS.out.2 x (List.mem_of_getElem? hx)
        have ck := hA'.k
        have ci := hA'.i
        have cs := hA'.s
        have HX := Lib.hid (And.intro hx hxs)
        clear hx hxs hA hA' hB
        go_wp2_with (first
          | (go_at_call 10; refine (few_any _ _ _ _ HX.out.2).mono ?_; rintro e w1 ⟨rfl, hb1⟩; have hown1 := hown.kept (row := none) ⟨hb1.os, hb1.tape, hb1.output, hb1.size, fun q hq _ => hb1.block q hq⟩ (by cases h : Value.ownBlock _ with | none => exact .inl rfl | some _ => exact .inr (by simp)); have HB1 := Lib.hid (hb.trans (hb1.mono hbs)); have hs1 := hb1.size; clear hb1 hown)
          | (at_builtin; refine wpList_append_own _ rfl _ _ 22 rfl w.heap.size 31 i0 _ 3 32 Try.underlying22 hi hz0 hz1 hz2 rfl (by decide) _ _ _ rfl (World.ownsRow.alloc hown1 _) ⟨w1.heap.size, 0, none⟩ 1 1 (Vl.cells x.few) rfl rfl ?c1 ?c2 ?c3 ?c4 ?c5 ?_))
        case c1 => exact new_cells
        case c2 => intro u hu; exact cells_one [x.few] u (by simpa [cellsOf] using hu)
        case c3 => unfold maxLen; omega
        case c4 => omega
        case c5 => simp; omega
        intro v' w2 hown' hgrow _
        have hb2 := row_below HB1.out (Nat.le_refl _) hown1 hgrow
        have hown2 : w2.ownsRow w.heap.size 31 3 v' (k + 1) (cellsOf ((l.take (k + 1)).map Vl.few)) := by
          rw [take_snoc' HX.out.1, List.map_append]
          show w2.ownsRow w.heap.size _ 3 v' (k + 1) (cellsOf ((l.take k).map Vl.few ++ [x.few]))
          rw [cells_snoc]
          first | exact hown' | (rw [List.map_take]; exact hown')
        have HO := Lib.hid hown2
        clear hown' hown1 hown2 hgrow
        go_wp2
        go_roundw
        case rel => exact ⟨k + 1, by omega, by omega, by go_num, hb2, HO.out⟩
        case measure => simp [intOf]; omega
      · have hd1 : decide ((k : Int) < 14) = false := decide_eq_false (by omega)
        have he : fewL l = (l.take k).map Vl.few := by unfold fewL; rw [show k = 14 by omega]
        have HO := Lib.hid (he ▸ hown)
        have HE : Hid ((fewL l).length = k) := by rw [he]; have := HL.out; show _ = _; simp; omega
        clear hown he
        go_wp2
        go_ret
        exact ⟨_, rfl, by rw [HE.out]; exact HO.out, hb⟩
    · have he : fewL l = (l.take k).map Vl.few := by unfold fewL; rw [List.take_of_length_le (by have := HL.out; omega), List.take_of_length_le (by have := HL.out; omega)]
      have HO := Lib.hid (he ▸ hown)
      have HE : Hid ((fewL l).length = k) := by rw [he]; have := HL.out; show _ = _; simp; omega
      clear hown he
      go_wp2
      go_ret
      exact ⟨_, rfl, by rw [HE.out]; exact HO.out, hb⟩
end Go.Proofs.Ytnahejljelbbgaa
