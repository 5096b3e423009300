import Derived.Test.YtnahejljelbbgaaGreatDoorLf
/- Rows of tokens: Same; the law's few; the chapter's examples (awake). -/
namespace Go.Proofs.YtnahejljelbbgaaGreatDoor
open Go.RowKit Go.Lib

theorem add_blk (a : Addr) (n : Nat) : (a.add n).block = a.block := by unfold Addr.add; split <;> rfl
/-- Token x lies at this address. -/
structure TkAt (W : World) (a : Addr) (x : Tk) : Prop where
  k : W.cell? a = some (.int .i64 x.k)
  s : W.cell? ⟨a.block, a.off + 1, none⟩ = some (.string ⟨x.s.toArray⟩)
theorem TkAt.keep {W W' : World} {a : Addr} {x : Tk} {B : Nat} (h : TkAt W a x) (hb : Below B W W') (hB : a.block < B) : TkAt W' a x :=
  ⟨(hb.cell hB).trans h.k, (hb.cell (p := ⟨a.block, _, none⟩) hB).trans h.s⟩
theorem TkAt.det {W W' : World} {a : Addr} {x : Tk} (h : TkAt W a x) (hb : Below W.drew.heap.size W.drew W') (hB : a.block < W.heap.size) : TkAt W' a x :=
  ⟨(hb.cell (p := a) hB).trans h.k, (hb.cell (p := ⟨a.block, _, none⟩) hB).trans h.s⟩
/-- The slice of n elements at A reads as these tokens; it lies below block B. -/
def Toks (W : World) (B : Nat) (A : Option Addr) (n : Nat) (l : List Tk) : Prop :=
  l.length = n ∧ ∀ j (h : j < l.length), ∃ a, A = some a ∧ TkAt W (a.add (j * 2)) l[j] ∧ a.block < B
theorem Toks.keep {W W' : World} {B : Nat} {A : Option Addr} {n : Nat} {l : List Tk} (h : Toks W B A n l) (hb : Below B W W') : Toks W' B A n l :=
  ⟨h.1, fun j hj => by
    obtain ⟨a, e, h1, h2⟩ := h.2 j hj
    exact ⟨a, e, h1.keep hb (by rw [add_blk]; exact h2), h2⟩⟩
theorem Toks.more {W : World} {B B' : Nat} {A : Option Addr} {n : Nat} {l : List Tk} (h : Toks W B A n l) (hB : B ≤ B') : Toks W B' A n l :=
  ⟨h.1, fun j hj => by
    obtain ⟨a, e, h1, h2⟩ := h.2 j hj
    exact ⟨a, e, h1, by omega⟩⟩
theorem Toks.later {W W' : World} {A : Option Addr} {n : Nat} {l : List Tk} (h : Toks W W.heap.size A n l) (hb : Below W.heap.size W W') : Toks W' W'.heap.size A n l := (h.keep hb).more hb.size
theorem Toks.at_ {W : World} {B : Nat} {A : Option Addr} {n : Nat} {l : List Tk} (h : Toks W B A n l) {k : Nat} (hk : k < n) : ∃ a x, A = some a ∧ l[k]? = some x ∧ TkAt W (a.add (k * 2)) x ∧ a.block < B := by
  obtain ⟨h1, h2⟩ := h
  obtain ⟨a, e, h3, h4⟩ := h2 k (by omega)
  exact ⟨a, l[k]'(by omega), e, List.getElem?_eq_getElem _, h3, h4⟩
theorem tcells_at (l : List Tk) : ∀ j (h : j < l.length), (tcells l)[j * 2]? = some (.int .i64 l[j].k) ∧ (tcells l)[j * 2 + 1]? = some (.string ⟨l[j].s.toArray⟩) := by
  induction l with
  | nil => intro j h; simp at h
  | cons x l ih =>
    intro j h
    cases j with
    | zero => simp [tcells, Tk.cells]
    | succ j =>
      have := ih j (by simpa using h)
      have e : tcells (x :: l) = x.cells ++ tcells l := by simp [tcells]
      have hl : x.cells.length = 2 := rfl
      rw [e]
      refine ⟨?_, ?_⟩
      · rw [List.getElem?_append_right (by rw [hl]; omega), hl, show (j + 1) * 2 - 2 = j * 2 by omega]; exact this.1
      · rw [List.getElem?_append_right (by rw [hl]; omega), hl, show (j + 1) * 2 + 1 - 2 = j * 2 + 1 by omega]; exact this.2
theorem OwnT.toks {W : World} {B : Nat} {v : Value} {l : List Tk} (h : OwnT W B v l) : ∃ A cap, v = .slice A l.length cap ∧ Toks W W.heap.size A l.length l := by
  have h' := h
  rcases h.2 with ⟨rfl, h0⟩ | ⟨g, cap, cur, rfl, hB, hg, hc, hm, hs, ht⟩
  · exact ⟨none, 0, by rw [h0], rfl, fun j hj => absurd hj (by omega)⟩
  · refine ⟨_, cap, rfl, rfl, fun j hj => ⟨_, rfl, ?_, (Array.getElem?_eq_some_iff.1 hg).1⟩⟩
    have hadd : (⟨g, 0, none⟩ : Addr).add (j * 2) = ⟨g, j * 2, none⟩ := by unfold Addr.add; split <;> simp_all
    obtain ⟨c0, c1⟩ := tcells_at l j hj
    rw [hadd]
    exact ⟨(World.ownsRow.cellAt h' (j * 2) (by omega)).trans c0, (World.ownsRow.cellAt h' (j * 2 + 1) (by omega)).trans c1⟩
theorem tk_eq {x y : Tk} (h1 : x.k = y.k) (h2 : x.s = y.s) : x = y := by cases x; cases y; simp only at h1 h2; rw [h1, h2]
def sameT (x y : Tk) : Bool := decide (x.k = y.k) && decide (x.s = y.s)
theorem sameT_iff (x y : Tk) : sameT x y = true ↔ x = y := by
  unfold sameT
  simp only [Bool.and_eq_true, decide_eq_true_eq]
  exact ⟨fun ⟨h1, h2⟩ => tk_eq h1 h2, fun h => by rw [h]; exact ⟨rfl, rfl⟩⟩
def sameTL : List Tk → List Tk → Bool
  | [], [] => true
  | x :: l, y :: m => sameT x y && sameTL l m
  | _, _ => false
theorem sameTL_iff : ∀ (l m : List Tk), sameTL l m = true ↔ l = m
  | [], [] => by simp [sameTL]
  | [], _ :: _ => by simp [sameTL]
  | _ :: _, [] => by simp [sameTL]
  | x :: l, y :: m => by
    simp only [sameTL, Bool.and_eq_true, sameT_iff, sameTL_iff l m, List.cons.injEq]
theorem sameTL_self (l : List Tk) : sameTL l l = true := (sameTL_iff l l).2 rfl
theorem sameTL_ne {l m : List Tk} (h : l ≠ m) : sameTL l m = false := by
  cases hs : sameTL l m with
  | false => rfl
  | true => exact absurd ((sameTL_iff l m).1 hs) h
theorem tdrop_at {l : List Tk} {k : Nat} {x : Tk} (h : l[k]? = some x) : l.drop k = x :: l.drop (k + 1) := by
  have hlt : k < l.length := (List.getElem?_eq_some_iff.1 h).1
  rw [List.drop_eq_getElem_cons hlt]
  rw [List.getElem?_eq_getElem hlt] at h
  rw [Option.some.inj h]
theorem ttake_at {l : List Tk} {k : Nat} {x : Tk} (h : l[k]? = some x) : l.take (k + 1) = l.take k ++ [x] := by rw [List.take_add_one, h]; rfl

set_option maxRecDepth 100000 in
set_option maxHeartbeats 8000000 in
theorem sameT_any (A : Option Addr) (n cap : Nat) (l : List Tk) (A' : Option Addr) (m cap' : Nat) (l' : List Tk) (w : World) (hn : n ≤ 100000) (hm : m ≤ 100000) (hv : Toks w w.heap.size A n l) (hv' : Toks w w.heap.size A' m l') :
    Calls Tryz.prog 10 #[.slice A n cap, .slice A' m cap'] w fun e w' => e = .returned (.bool (sameTL l l')) ∧ Below w.heap.size w w' := by
  have HV := Lib.hid hv
  have HV' := Lib.hid hv'
  have HL := Lib.hid (And.intro hv.1 hv'.1)
  clear hv hv'
  by_cases hnm : n = m
  · subst hnm
    go_enter Tryz.func10, Tryz.ntmps10
    go_wp2
    go_loopw [5] (fun i wr => ∃ k : Nat, k ≤ n ∧ i = .int .i64 k ∧ Below w.heap.size w wr ∧ Hid (l.take k = l'.take k)) (fun i _ => n - (intOf i).toNat)
    case atStart => exact ⟨0, by omega, rfl, Below.refl _ _, by show _ = _; simp⟩
    case round =>
      obtain ⟨k, hk, rfl, hb, HT⟩ := hrel
      have hbs := hb.size
      by_cases hlt0 : k < n
      · have hlt1 := hlt0
        have hkn : ((k : Nat) : Int) < (n : Int) := by omega
        obtain ⟨xa, x, rfl, hx, hA, hB0⟩ := HV.out.at_ hlt0
        obtain ⟨xk, xs, xe⟩ : ∃ k s, x.k = k ∧ (⟨x.s.toArray⟩ : ByteArray) = s := ⟨_, _, rfl, rfl⟩
        have hA' := hA.keep hb (by rw [add_blk]; exact hB0)
        have HA0 : Hid (TkAt wr (xa.add (k * 2)) x ∧ (xa.add (k * 2)).block < wr.heap.size) := ⟨hA', by rw [add_blk]; omega⟩
        have c0k := hA'.k
        have c0s := hA'.s
        rw [xe.1] at c0k
        rw [xe.2] at c0s
        have HX0 := Lib.hid hx
        have HE0 := Lib.hid xe
        clear hx hA hA' xe
        obtain ⟨ya, y, rfl, hx, hA, hB1⟩ := HV'.out.at_ hlt1
        obtain ⟨yk, ys, ye⟩ : ∃ k s, y.k = k ∧ (⟨y.s.toArray⟩ : ByteArray) = s := ⟨_, _, rfl, rfl⟩
        have hA' := hA.keep hb (by rw [add_blk]; exact hB1)
        have HA1 : Hid (TkAt wr (ya.add (k * 2)) y ∧ (ya.add (k * 2)).block < wr.heap.size) := ⟨hA', by rw [add_blk]; omega⟩
        have c1k := hA'.k
        have c1s := hA'.s
        rw [ye.1] at c1k
        rw [ye.2] at c1s
        have HX1 := Lib.hid hx
        have HE1 := Lib.hid ye
        clear hx hA hA' ye
        cases hs : sameT x y with
        | true =>
          obtain rfl := (sameT_iff x y).1 hs
          have ek : yk = xk := HE1.out.1.symm.trans HE0.out.1
          have es : ys = xs := HE1.out.2.symm.trans HE0.out.2
          subst ek es
          have HZ := Lib.hid (show l.take (k + 1) = l'.take (k + 1) by rw [ttake_at HX0.out, ttake_at HX1.out, HT.out])
          clear hs
          go_wp2
          refine detL_begin [.val (.slice (some xa) n cap), .val (.int .i64 k), .val (.pointer (some (xa.add (k * 2)))), .val (.agg #[.int .i64 yk, .string ys]), .val (.slice (some ya) n cap'), .val (.int .i64 k), .val (.pointer (some (ya.add (k * 2)))), .val (.agg #[.int .i64 yk, .string ys]), .val (.bool false)] 9 (by kernel_rfl) ?_
          refine detL_val (by kernel_rfl) (yields_of rfl fun w1 hb1 => ?_) ?_
          · have hc1 := bcellD hb1
            clear hb1
            go_simp
            exact Det1_same
          simp only [Act.put, List.setIfInBounds_toArray, List.set_cons_zero, List.set_cons_succ]
          refine detL_val (by kernel_rfl) (yields_of rfl fun w1 hb1 => ?_) ?_
          · have hc1 := bcellD hb1
            clear hb1
            go_simp
            exact Det1_same
          simp only [Act.put, List.setIfInBounds_toArray, List.set_cons_zero, List.set_cons_succ]
          refine detL_val (by kernel_rfl) (yields_of rfl fun w1 hb1 => ?_) ?_
          · have hc1 := bcellD hb1
            clear hb1
            go_simp
            exact Det1_same
          simp only [Act.put, List.setIfInBounds_toArray, List.set_cons_zero, List.set_cons_succ]
          refine detL_val (by kernel_rfl) (yields_of rfl fun w1 hb1 => ?_) ?_
          · have hc1 := bcellD hb1
            have hv1 := HA0.out.1.det hb1 HA0.out.2; have d1 := hv1.k; have d2 := hv1.s; rw [HE0.out.1] at d1; rw [HE0.out.2] at d2; clear hv1
            clear hb1
            go_simp
            exact Det1_same
          simp only [Act.put, List.setIfInBounds_toArray, List.set_cons_zero, List.set_cons_succ]
          refine detL_val (by kernel_rfl) (yields_of rfl fun w1 hb1 => ?_) ?_
          · have hc1 := bcellD hb1
            clear hb1
            go_simp
            exact Det1_same
          simp only [Act.put, List.setIfInBounds_toArray, List.set_cons_zero, List.set_cons_succ]
          refine detL_val (by kernel_rfl) (yields_of rfl fun w1 hb1 => ?_) ?_
          · have hc1 := bcellD hb1
            clear hb1
            go_simp
            exact Det1_same
          simp only [Act.put, List.setIfInBounds_toArray, List.set_cons_zero, List.set_cons_succ]
          refine detL_val (by kernel_rfl) (yields_of rfl fun w1 hb1 => ?_) ?_
          · have hc1 := bcellD hb1
            clear hb1
            go_simp
            exact Det1_same
          simp only [Act.put, List.setIfInBounds_toArray, List.set_cons_zero, List.set_cons_succ]
          refine detL_val (by kernel_rfl) (yields_of rfl fun w1 hb1 => ?_) ?_
          · have hc1 := bcellD hb1
            have hv1 := HA1.out.1.det hb1 HA1.out.2; have d1 := hv1.k; have d2 := hv1.s; rw [HE1.out.1] at d1; rw [HE1.out.2] at d2; clear hv1
            clear hb1
            go_simp
            exact Det1_same
          simp only [Act.put, List.setIfInBounds_toArray, List.set_cons_zero, List.set_cons_succ]
          refine detL_val (by kernel_rfl) (yields_of rfl fun w1 hb1 => ?_) ?_
          · have hc1 := bcellD hb1
            clear hb1
            go_simp
            exact Det1_same
          simp only [Act.put, List.setIfInBounds_toArray, List.set_cons_zero, List.set_cons_succ]
          refine detL_done (by kernel_rfl) fun w1 hw1 => ?_
          have hb1 := hw1.below
          clear hw1
          go_wp2
          go_roundw
          case rel => exact ⟨k + 1, by omega, by go_num, hb.drew.trans (hb1.mono hbs), HZ.out⟩
          case measure => simp [intOf]; omega
        | false =>
          have HR := Lib.hid (show sameTL l l' = false from sameTL_ne fun e => by
            subst e
            have h1 := HX0.out.symm.trans HX1.out
            rw [(sameT_iff x y).2 (Option.some.inj h1)] at hs
            cases hs)
          have hne : ¬ (xk = yk ∧ xs.toList = ys.toList) := by
            rintro ⟨h1, h2⟩
            rw [toList_data, toList_data] at h2
            have h3 : xs = ys := ByteArray.ext (Array.toList_inj.1 h2)
            have h4 := HE0.out.2.trans (h3.trans HE1.out.2.symm)
            have h5 : x.s = y.s := by have := congrArg (fun b : ByteArray => b.data.toList) h4; simpa using this
            have h6 : sameT x y = true := (sameT_iff x y).2 (tk_eq (HE0.out.1.trans (h1.trans HE1.out.1.symm)) h5)
            rw [h6] at hs
            cases hs
          clear hs
          by_cases h1 : xk = yk
          · have h3 : ¬ xs.toList = ys.toList := fun h => hne ⟨h1, h⟩
            have h3' : (xs.toList == ys.toList) = false := beq_eq_false_iff_ne.2 h3
            subst h1
            clear hne
            go_wp2
            refine detL_begin [.val (.slice (some xa) n cap), .val (.int .i64 k), .val (.pointer (some (xa.add (k * 2)))), .val (.agg #[.int .i64 xk, .string xs]), .val (.slice (some ya) n cap'), .val (.int .i64 k), .val (.pointer (some (ya.add (k * 2)))), .val (.agg #[.int .i64 xk, .string ys]), .val (.bool true)] 9 (by kernel_rfl) ?_
            refine detL_val (by kernel_rfl) (yields_of rfl fun w1 hb1 => ?_) ?_
            · have hc1 := bcellD hb1
              clear hb1
              go_simp
              exact Det1_same
            simp only [Act.put, List.setIfInBounds_toArray, List.set_cons_zero, List.set_cons_succ]
            refine detL_val (by kernel_rfl) (yields_of rfl fun w1 hb1 => ?_) ?_
            · have hc1 := bcellD hb1
              clear hb1
              go_simp
              exact Det1_same
            simp only [Act.put, List.setIfInBounds_toArray, List.set_cons_zero, List.set_cons_succ]
            refine detL_val (by kernel_rfl) (yields_of rfl fun w1 hb1 => ?_) ?_
            · have hc1 := bcellD hb1
              clear hb1
              go_simp
              exact Det1_same
            simp only [Act.put, List.setIfInBounds_toArray, List.set_cons_zero, List.set_cons_succ]
            refine detL_val (by kernel_rfl) (yields_of rfl fun w1 hb1 => ?_) ?_
            · have hc1 := bcellD hb1
              have hv1 := HA0.out.1.det hb1 HA0.out.2; have d1 := hv1.k; have d2 := hv1.s; rw [HE0.out.1] at d1; rw [HE0.out.2] at d2; clear hv1
              clear hb1
              go_simp
              exact Det1_same
            simp only [Act.put, List.setIfInBounds_toArray, List.set_cons_zero, List.set_cons_succ]
            refine detL_val (by kernel_rfl) (yields_of rfl fun w1 hb1 => ?_) ?_
            · have hc1 := bcellD hb1
              clear hb1
              go_simp
              exact Det1_same
            simp only [Act.put, List.setIfInBounds_toArray, List.set_cons_zero, List.set_cons_succ]
            refine detL_val (by kernel_rfl) (yields_of rfl fun w1 hb1 => ?_) ?_
            · have hc1 := bcellD hb1
              clear hb1
              go_simp
              exact Det1_same
            simp only [Act.put, List.setIfInBounds_toArray, List.set_cons_zero, List.set_cons_succ]
            refine detL_val (by kernel_rfl) (yields_of rfl fun w1 hb1 => ?_) ?_
            · have hc1 := bcellD hb1
              clear hb1
              go_simp
              exact Det1_same
            simp only [Act.put, List.setIfInBounds_toArray, List.set_cons_zero, List.set_cons_succ]
            refine detL_val (by kernel_rfl) (yields_of rfl fun w1 hb1 => ?_) ?_
            · have hc1 := bcellD hb1
              have hv1 := HA1.out.1.det hb1 HA1.out.2; have d1 := hv1.k; have d2 := hv1.s; rw [HE1.out.1] at d1; rw [HE1.out.2] at d2; clear hv1
              clear hb1
              go_simp
              exact Det1_same
            simp only [Act.put, List.setIfInBounds_toArray, List.set_cons_zero, List.set_cons_succ]
            refine detL_val (by kernel_rfl) (yields_of rfl fun w1 hb1 => ?_) ?_
            · have hc1 := bcellD hb1
              clear hb1
              go_simp
              exact Det1_same
            simp only [Act.put, List.setIfInBounds_toArray, List.set_cons_zero, List.set_cons_succ]
            refine detL_done (by kernel_rfl) fun w1 hw1 => ?_
            have hb1 := hw1.below
            clear hw1
            go_wp2
            go_ret
            exact ⟨ret_bool HR.out.symm, hb.drew.trans (hb1.mono hbs)⟩
          · clear hne
            go_wp2
            refine detL_begin [.val (.slice (some xa) n cap), .val (.int .i64 k), .val (.pointer (some (xa.add (k * 2)))), .val (.agg #[.int .i64 xk, .string xs]), .val (.slice (some ya) n cap'), .val (.int .i64 k), .val (.pointer (some (ya.add (k * 2)))), .val (.agg #[.int .i64 yk, .string ys]), .val (.bool true)] 9 (by kernel_rfl) ?_
            refine detL_val (by kernel_rfl) (yields_of rfl fun w1 hb1 => ?_) ?_
            · have hc1 := bcellD hb1
              clear hb1
              go_simp
              exact Det1_same
            simp only [Act.put, List.setIfInBounds_toArray, List.set_cons_zero, List.set_cons_succ]
            refine detL_val (by kernel_rfl) (yields_of rfl fun w1 hb1 => ?_) ?_
            · have hc1 := bcellD hb1
              clear hb1
              go_simp
              exact Det1_same
            simp only [Act.put, List.setIfInBounds_toArray, List.set_cons_zero, List.set_cons_succ]
            refine detL_val (by kernel_rfl) (yields_of rfl fun w1 hb1 => ?_) ?_
            · have hc1 := bcellD hb1
              clear hb1
              go_simp
              exact Det1_same
            simp only [Act.put, List.setIfInBounds_toArray, List.set_cons_zero, List.set_cons_succ]
            refine detL_val (by kernel_rfl) (yields_of rfl fun w1 hb1 => ?_) ?_
            · have hc1 := bcellD hb1
              have hv1 := HA0.out.1.det hb1 HA0.out.2; have d1 := hv1.k; have d2 := hv1.s; rw [HE0.out.1] at d1; rw [HE0.out.2] at d2; clear hv1
              clear hb1
              go_simp
              exact Det1_same
            simp only [Act.put, List.setIfInBounds_toArray, List.set_cons_zero, List.set_cons_succ]
            refine detL_val (by kernel_rfl) (yields_of rfl fun w1 hb1 => ?_) ?_
            · have hc1 := bcellD hb1
              clear hb1
              go_simp
              exact Det1_same
            simp only [Act.put, List.setIfInBounds_toArray, List.set_cons_zero, List.set_cons_succ]
            refine detL_val (by kernel_rfl) (yields_of rfl fun w1 hb1 => ?_) ?_
            · have hc1 := bcellD hb1
              clear hb1
              go_simp
              exact Det1_same
            simp only [Act.put, List.setIfInBounds_toArray, List.set_cons_zero, List.set_cons_succ]
            refine detL_val (by kernel_rfl) (yields_of rfl fun w1 hb1 => ?_) ?_
            · have hc1 := bcellD hb1
              clear hb1
              go_simp
              exact Det1_same
            simp only [Act.put, List.setIfInBounds_toArray, List.set_cons_zero, List.set_cons_succ]
            refine detL_val (by kernel_rfl) (yields_of rfl fun w1 hb1 => ?_) ?_
            · have hc1 := bcellD hb1
              have hv1 := HA1.out.1.det hb1 HA1.out.2; have d1 := hv1.k; have d2 := hv1.s; rw [HE1.out.1] at d1; rw [HE1.out.2] at d2; clear hv1
              clear hb1
              go_simp
              exact Det1_same
            simp only [Act.put, List.setIfInBounds_toArray, List.set_cons_zero, List.set_cons_succ]
            refine detL_val (by kernel_rfl) (yields_of rfl fun w1 hb1 => ?_) ?_
            · have hc1 := bcellD hb1
              clear hb1
              go_simp
              exact Det1_same
            simp only [Act.put, List.setIfInBounds_toArray, List.set_cons_zero, List.set_cons_succ]
            refine detL_done (by kernel_rfl) fun w1 hw1 => ?_
            have hb1 := hw1.below
            clear hw1
            go_wp2
            go_ret
            exact ⟨ret_bool HR.out.symm, hb.drew.trans (hb1.mono hbs)⟩
      · have HR := Lib.hid (show sameTL l l' = true by
          rw [sameTL_iff]
          have h1 := HT.out
          rwa [List.take_of_length_le (by have := HL.out.1; omega), List.take_of_length_le (by have := HL.out.2; omega)] at h1)
        go_wp2
        go_ret
        exact ⟨ret_bool HR.out.symm, hb⟩
  · have HR := Lib.hid (show sameTL l l' = false from sameTL_ne fun e => hnm (by rw [← HL.out.1, ← HL.out.2, e]))
    have hnm' : ¬ (n : Int) = (m : Int) := by omega
    go_enter Tryz.func10, Tryz.ntmps10
    go_wp2
    go_ret
    exact ⟨ret_bool HR.out.symm, Below.refl _ _⟩

/-- A text of which no more is looked at. -/
def few3S (s : ByteArray) : ByteArray := if s.size ≤ 1200 then s else s.extract 0 1200
theorem few3_size (s : ByteArray) : (few3S s).size ≤ 1200 := by
  unfold few3S
  split
  · assumption
  · rw [ByteArray.size_extract]; omega
set_option maxRecDepth 100000 in
theorem few3s_any (s : ByteArray) (w : World) (hs : s.size ≤ maxLen) :
    Calls Tryz.prog 11 #[.string s] w fun e w' => e = .returned (.string (few3S s)) ∧ Below w.heap.size w w' := by
  unfold maxLen at hs
  unfold few3S
  by_cases h : s.size ≤ 1200
  · have h' : ¬ (1200 : Int) < (s.size : Int) := by omega
    rw [if_pos h]
    go_enter Tryz.func11, Tryz.ntmps11
    go_wp2
    go_ret
    exact ⟨rfl, Below.refl _ _⟩
  · have h' : (1200 : Int) < (s.size : Int) := by omega
    rw [if_neg h]
    go_enter Tryz.func11, Tryz.ntmps11
    go_wp2
    go_ret
    exact ⟨rfl, Below.refl _ _⟩

theorem cut_ok (s : ByteArray) (w : World) (hs : s.size ≤ 100000) (hl : LibE w) (ts : List Tk) (h : cutR s.data.toList = some ts) :
    Calls Tryz.prog 9 #[.string s] w fun e w' => ∃ v, e = .returned (.tuple #[v, .int .i64 0]) ∧ Hid (OwnT w' w.heap.size v ts) ∧ Below w.heap.size w w' :=
  (cut_any s w hs hl).mono fun e w' ⟨hc, hb⟩ => by
    rcases hc with ⟨v, ts', h1, h2, h3⟩ | ⟨h1, _⟩
    · rw [h] at h1
      obtain rfl := Option.some.inj h1
      exact ⟨v, h2, h3, hb⟩
    · rw [h] at h1; cases h1
theorem cut_no (s : ByteArray) (w : World) (hs : s.size ≤ 100000) (hl : LibE w) (h : cutR s.data.toList = none) :
    Calls Tryz.prog 9 #[.string s] w fun e w' => e = .returned (.tuple #[.slice none 0 0, .int .i64 2]) ∧ Below w.heap.size w w' :=
  (cut_any s w hs hl).mono fun e w' ⟨hc, hb⟩ => by
    rcases hc with ⟨v, ts', h1, h2, h3⟩ | ⟨_, h2⟩
    · rw [h] at h1; cases h1
    · exact ⟨h2, hb⟩
theorem cut_ok' (s : ByteArray) (w : World) (hs : s.size ≤ 100000) (hl : LibE w) (ts : List Tk) (h : cutR s.data.toList = some ts) (n : Nat) (hn : ts.length = n) :
    Calls Tryz.prog 9 #[.string s] w fun e w' => ∃ A cap, e = .returned (.tuple #[.slice A n cap, .int .i64 0]) ∧ Hid (Toks w' w'.heap.size A n ts) ∧ Below w.heap.size w w' :=
  (cut_ok s w hs hl ts h).mono fun e w' ⟨v, h1, h2, hb⟩ => by
    obtain ⟨A, cap, rfl, ht⟩ := h2.out.toks
    subst hn
    exact ⟨A, cap, h1, ht, hb⟩
end Go.Proofs.YtnahejljelbbgaaGreatDoor
