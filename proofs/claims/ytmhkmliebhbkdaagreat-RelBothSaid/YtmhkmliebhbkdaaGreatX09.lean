import Derived.Test.YtmhkmliebhbkdaaGreatX08

/- What an expression comes to over a row: value, Eval. -/
namespace Go.Proofs.YtmhkmliebhbkdaaGreat
open Go.RowKit Go.Lib

/-- What an Op makes of the values of its parts. -/
def opF (op : List UInt8) : List Vl → Vl
  | [x] => if op = [110, 111, 116] then notV x else isnV x
  | [x, y] => if op = [97, 110, 100] then andV x y else if op = [111, 114] then orV x y else if op = [61] then eqV x y else if op = [60] then lessV x y else if op = [43] then plusV x y else minusV x y
  | _ => nulV
def evalF (cols : List Cl) (row : List Vl) : Nat → Ex → Vl
  | 0, _ => nulV
  | n + 1, t => if t.op.toList = [108, 105, 116] then t.x else if t.op.toList = [99, 111, 108] then colV cols row t.s else opF t.op.toList (t.l.map (evalF cols row n))
def wfF : Nat → Ex → Prop
  | 0, _ => False
  | n + 1, t => fmT t = true ∧ ∀ y ∈ t.l, wfF n y
theorem wf_parts {f : Ex → Int → Bool × Int} {p : Ex → Prop} (hf : ∀ x m, (f x m).1 = true → p x) : ∀ (l : List Ex) (m : Int), (partsF f l m).1 = true → ∀ y ∈ l, p y
  | [], _, _, _, hy => by cases hy
  | x :: r, m, h, y, hy => by
    unfold partsF at h
    by_cases hb : (f x m).1 = true
    · rw [if_pos hb] at h
      rcases List.mem_cons.1 hy with rfl | hy
      · exact hf _ _ hb
      · exact wf_parts hf r _ h y hy
    · rw [if_neg hb] at h
      cases h
theorem wf_within : ∀ (d : Nat) (t : Ex) (m : Int), (withinF d t m).1 = true → wfF d t
  | 0, _, _, h => by cases h
  | d + 1, t, m, h => by
    unfold withinF at h
    by_cases h0 : m - 1 < 0
    · rw [if_pos h0] at h; cases h
    · rw [if_neg h0] at h
      by_cases hf : fmT t = true
      · rw [if_pos hf] at h
        exact ⟨hf, wf_parts (wf_within d) t.l _ h⟩
      · rw [if_neg hf] at h; cases h
theorem wf_may {t : Ex} (h : mayT t = true) : wfF 12 t := wf_within 12 t 60 h

/-- A struct of one's own: columns, row, map. -/
structure Boxo (w : World) (oc or' : Value) (r : Nat) (op : ByteArray) (W : World) : Prop where
  below : Below w.heap.size w W
  o0 : W.cell? ⟨w.heap.size, 0, none⟩ = some oc
  o1 : W.cell? ⟨w.heap.size, 1, none⟩ = some or'
  o2 : W.cell? ⟨w.heap.size, 2, none⟩ = some (.map (some r))
  e0 : W.cell? ⟨w.heap.size + 1, 0, none⟩ = some (.string op)
  r0 : W.cell? ⟨w.heap.size + 2, 0, none⟩ = some (.int .i64 0)
  r1 : W.cell? ⟨w.heap.size + 2, 1, none⟩ = some (.int .i64 0)
  r2 : W.cell? ⟨w.heap.size + 2, 2, none⟩ = some (.string ⟨#[]⟩)
  fz : ∀ o, W.frozen? ⟨w.heap.size + 2, o, none⟩ = false
theorem Boxo.lt {w W : World} {oc or' : Value} {r : Nat} {op : ByteArray} (h : Boxo w oc or' r op W) : w.heap.size + 2 < W.heap.size := World.block_lt_of_cell? _ _ h.r0
theorem Boxo.later {w W W' : World} {oc or' : Value} {r : Nat} {op : ByteArray} (h : Boxo w oc or' r op W) (hb : Below W.heap.size W W') : Boxo w oc or' r op W' := by
  have hl := h.lt
  exact ⟨h.below.trans (hb.mono h.below.size), (hb.cell (p := ⟨_, _, none⟩) (by show w.heap.size < _; omega)).trans h.o0, (hb.cell (p := ⟨_, _, none⟩) (by show w.heap.size < _; omega)).trans h.o1, (hb.cell (p := ⟨_, _, none⟩) (by show w.heap.size < _; omega)).trans h.o2,
    (hb.cell (p := ⟨_, _, none⟩) (by show w.heap.size + 1 < _; omega)).trans h.e0, (hb.cell (p := ⟨_, _, none⟩) hl).trans h.r0, (hb.cell (p := ⟨_, _, none⟩) hl).trans h.r1, (hb.cell (p := ⟨_, _, none⟩) hl).trans h.r2, fun o => (hb.frozen (p := ⟨_, o, none⟩) hl).trans (h.fz o)⟩
theorem Boxo.start (w : World) (oc or' : Value) (r : Nat) (op : ByteArray) (k i : Int) (vs s : ByteArray) (u : Value) :
    Boxo w oc or' r op (((w.alloc (.cells #[oc, or', .map (some r)] 96)).alloc (.cells #[.string op, .int .i64 k, .int .i64 i, .string vs, .string s, u] 29)).alloc (.cells #[.int .i64 0, .int .i64 0, .string ⟨#[]⟩] 26)) :=
  ⟨(((Below.refl _ _).alloc (Nat.le_refl _) _).alloc (by simp) _).alloc (by simp; omega) _, by simp [go_sem], by simp [go_sem], by simp [go_sem], by simp [go_sem], by simp [go_sem], by simp [go_sem], by simp [go_sem], fun o => by simp [go_sem]⟩

theorem own_mono {W : World} {B B' : Nat} {e : TypeId} {z n : Nat} {v : Value} {xs : List Value} (h : W.ownsRow B e z v n xs) (hB : B' ≤ B) : W.ownsRow B' e z v n xs := by
  refine ⟨h.1, ?_⟩
  rcases h.2 with h0 | ⟨g, cap, cur, h1, h2, h3⟩
  · exact .inl h0
  · exact .inr ⟨g, cap, cur, h1, Nat.le_trans hB h2, h3⟩
theorem own_one {W : World} {B : Nat} {v : Value} {x : Vl} (h : W.ownsRow B 26 3 v 1 (cellsOf [x])) :
    ∃ g cap, v = .slice (some ⟨g, 0, none⟩) 1 cap ∧ W.cell? ⟨g, 0, none⟩ = some (.int .i64 x.k) ∧ W.cell? ⟨g, 1, none⟩ = some (.int .i64 x.i) ∧ W.cell? ⟨g, 2, none⟩ = some (.string x.s) := by
  rcases h.2 with ⟨_, h0⟩ | ⟨g, cap, cur, rfl, hB, hg, hc, hm, hs, ht⟩
  · omega
  · exact ⟨g, cap, rfl, h.cellAt 0 (by omega), h.cellAt 1 (by omega), h.cellAt 2 (by omega)⟩
theorem own_two {W : World} {B : Nat} {v : Value} {x y : Vl} (h : W.ownsRow B 26 3 v 2 (cellsOf [x, y])) :
    ∃ g cap, v = .slice (some ⟨g, 0, none⟩) 2 cap ∧ (W.cell? ⟨g, 0, none⟩ = some (.int .i64 x.k) ∧ W.cell? ⟨g, 1, none⟩ = some (.int .i64 x.i) ∧ W.cell? ⟨g, 2, none⟩ = some (.string x.s)) ∧ W.cell? ⟨g, 3, none⟩ = some (.int .i64 y.k) ∧ W.cell? ⟨g, 4, none⟩ = some (.int .i64 y.i) ∧ W.cell? ⟨g, 5, none⟩ = some (.string y.s) := by
  rcases h.2 with ⟨_, h0⟩ | ⟨g, cap, cur, rfl, hB, hg, hc, hm, hs, ht⟩
  · omega
  · exact ⟨g, cap, rfl, ⟨h.cellAt 0 (by omega), h.cellAt 1 (by omega), h.cellAt 2 (by omega)⟩, h.cellAt 3 (by omega), h.cellAt 4 (by omega), h.cellAt 5 (by omega)⟩

set_option maxRecDepth 100000 in
set_option maxHeartbeats 4000000 in
theorem value_lit (A : Option Addr) (n c : Nat) (cols : List Cl) (A' : Option Addr) (m c' : Nat) (row : List Vl) (r : Nat) (B : Option Addr) (q d : Nat) (k i : Int) (vs s : ByteArray) (w : World) :
    Calls Tryz.prog 68 #[.agg #[.slice A n c, .slice A' m c', .map (some r)], .agg #[.string ⟨#[108, 105, 116]⟩, .int .i64 k, .int .i64 i, .string vs, .string s, .slice B q d]] w fun e w' => e = .returned (.agg #[.int .i64 (⟨k, i, vs⟩ : Vl).k, .int .i64 (⟨k, i, vs⟩ : Vl).i, .string (⟨k, i, vs⟩ : Vl).s]) ∧ Below w.heap.size w w' := by
  go_enter Tryz.func68, Tryz.ntmps68
  go_wp2_with (fail)
  refine bodyPost_ret (v := .agg #[.int .i64 k, .int .i64 i, .string vs]) (by simp [results, Tryz.results68, go_sem, *]; done) rfl ⟨rfl, ?_⟩
  repeat (first | (with_reducible exact Below.refl _ _) | ((with_reducible refine cSet3 ?_ ?_ _ _ _); (· ((try simp) <;> omega))) | (with_reducible refine Below.drew ?_) | ((with_reducible refine cAlloc ?_ ?_ _); (· ((try simp) <;> omega))) | ((with_reducible refine cOn (by assumption) ?_ ?_); (· ((try simp) <;> omega))))

set_option maxRecDepth 100000 in
set_option maxHeartbeats 4000000 in
theorem value_col (A : Option Addr) (n c : Nat) (cols : List Cl) (A' : Option Addr) (m c' : Nat) (row : List Vl) (r : Nat) (B : Option Addr) (q d : Nat) (k i : Int) (vs s : ByteArray) (w : World) (hc : ColS w A n cols) (hv : Vals w w.heap.size A' m row) (hm : m ≤ maxLen) :
    Calls Tryz.prog 68 #[.agg #[.slice A n c, .slice A' m c', .map (some r)], .agg #[.string ⟨#[99, 111, 108]⟩, .int .i64 k, .int .i64 i, .string vs, .string s, .slice B q d]] w fun e w' => e = .returned (.agg #[.int .i64 (colV cols row s).k, .int .i64 (colV cols row s).i, .string (colV cols row s).s]) ∧ Below w.heap.size w w' := by
  have HC := Lib.hid hc
  have HV := Lib.hid hv
  unfold maxLen at hm
  clear hc hv
  go_enter Tryz.func68, Tryz.ntmps68
  go_wp2_with (go_at_call 116; refine (column_any A n c cols A' m c' row r s _ (((HC.out.below ((Below.refl _ _).alloc (Nat.le_refl _) _)).below ((Below.refl _ _).alloc (Nat.le_refl _) _)).below ((Below.refl _ _).alloc (Nat.le_refl _) _)) ((HV.out.keep ((((Below.refl w.heap.size w).alloc (Nat.le_refl _) _).alloc (by simp) _).alloc (by simp; omega) _)).more (by simp; omega)) (by unfold maxLen; omega)).mono ?_; rintro e w1 ⟨rfl, hb1⟩; have hc1 := (bcell hb1).1; have hf1 := (bcell hb1).2; have hy1 := hb1.size; (try simp at hy1); have hz1_0 : w.heap.size < w1.heap.size := (by omega); have hz1_1 : w.heap.size + 1 < w1.heap.size := (by omega); have hz1_2 : w.heap.size + 1 + 1 < w1.heap.size := (by omega))
  generalize colV cols row s = z
  refine bodyPost_ret (v := .agg #[.int .i64 z.k, .int .i64 z.i, .string z.s]) (by simp [results, Tryz.results68, go_sem, *]; done) rfl ⟨rfl, ?_⟩
  repeat (first | (with_reducible exact Below.refl _ _) | ((with_reducible refine cSet3 ?_ ?_ _ _ _); (· ((try simp) <;> omega))) | (with_reducible refine Below.drew ?_) | ((with_reducible refine cAlloc ?_ ?_ _); (· ((try simp) <;> omega))) | ((with_reducible refine cOn (by assumption) ?_ ?_); (· ((try simp) <;> omega))))

set_option maxRecDepth 100000 in
set_option maxHeartbeats 4000000 in
theorem value_one (A : Option Addr) (n c : Nat) (cols : List Cl) (A' : Option Addr) (m c' : Nat) (row : List Vl) (r : Nat) (op : ByteArray) (b : Nat) (v0 v1 v2 v3 v4 v5 v6 v7 : Value) (B : Option Addr) (p d : Nat) (hp : p ≤ 1000) (hp1 : 1 ≤ p) (l : List Ex) (ev : Ex → Vl) (R : Vl) (P : Nat → Prop) (M : Nat) (k i : Int) (vs s : ByteArray) (w : World) (h1 : (op.toList == [108, 105, 116]) = false) (h2 : (op.toList == [99, 111, 108]) = false) (hD : Does w r v0 v1 v2 v3 v4 v5 v6 v7) (hS : Sl w P M l (.slice B p d)) (hl : l.length = p)
    (hlook : ∀ W, Does W r v0 v1 v2 v3 v4 v5 v6 v7 → (Instr.lookup 93 (.map (some r)) (.string op) false).run Tryz.prog W = .ok (.func (.func 143) #[] #[.pointer (some ⟨b, 0, none⟩)]) W)
    (hrec : ∀ (t : Ex) (u : Value) (M : Nat) (W : World), t ∈ l → Tr W P M t u → Does W r v0 v1 v2 v3 v4 v5 v6 v7 → Below w.heap.size w W → Calls Tryz.prog 68 #[.agg #[.slice A n c, .slice A' m c', .map (some r)], EVt t u] W fun e w' => e = .returned (.agg #[.int .i64 (ev t).k, .int .i64 (ev t).i, .string (ev t).s]) ∧ Below W.heap.size W w')
    (hdo : ∀ (g cap : Nat) (W : World), Does W r v0 v1 v2 v3 v4 v5 v6 v7 → W.ownsRow w.heap.size 26 3 (.slice (some ⟨g, 0, none⟩) p cap) p (cellsOf (l.map ev)) → Calls Tryz.prog 143 #[.slice (some ⟨g, 0, none⟩) p cap, .pointer (some ⟨b, 0, none⟩)] W fun e w' => e = .returned (.agg #[.int .i64 R.k, .int .i64 R.i, .string R.s]) ∧ Below W.heap.size W w') :
    Calls Tryz.prog 68 #[.agg #[.slice A n c, .slice A' m c', .map (some r)], .agg #[.string op, .int .i64 k, .int .i64 i, .string vs, .string s, .slice B p d]] w fun e w' => e = .returned (.agg #[.int .i64 R.k, .int .i64 R.i, .string R.s]) ∧ Below w.heap.size w w' := by
  obtain ⟨i0, hi, hz0, hz1, hz2⟩ := info_parts infoVal
  have HD := Lib.hid hD
  have HS := Lib.hid hS
  have HL := Lib.hid hl
  have HK := Lib.hid hlook
  have HR := Lib.hid hrec
  have HO := Lib.hid hdo
  clear hD hS hl hlook hrec hdo
  go_enter Tryz.func68, Tryz.ntmps68
  go_wp2_with (fail)
  refine wp_gen (Boxo w (.slice A n c) (.slice A' m c') r op) (Boxo.start w _ _ r op k i vs s _) fun w0 hw0 => ?_
  have HW := Lib.hid hw0
  have hwl := hw0.lt
  clear hw0
  go_loopw [5, 23] (fun v iv wr => ∃ j : Nat, j ≤ p ∧ iv = .int .i64 j ∧ Below w0.heap.size w0 wr ∧ wr.ownsRow w0.heap.size 26 3 v j (cellsOf ((l.take j).map ev))) (fun _ iv _ => p - (intOf iv).toNat)
  case atStart => exact ⟨0, by omega, rfl, Below.refl _ _, World.ownsRow_nil _ _ _ _⟩
  case round =>
    obtain ⟨j, hj, rfl, hb, hown⟩ := hrel
    have hbs := hb.size
    have HX := Lib.hid (HW.out.later hb)
    have e0 := HX.out.o0
    have e1 := HX.out.o1
    have e2 := HX.out.o2
    have e3 := HX.out.e0
    have HDw := Lib.hid (HD.out.below ((HX.out.below)))
    have hzz0 : w.heap.size < wr.heap.size := by omega
    have hzz1 : w.heap.size + 1 < wr.heap.size := by omega
    by_cases hlt : j < p
    · have hjl : j < l.length := by rw [HL.out]; exact hlt
      obtain ⟨a, u', M', hBa, hPa, hE, hTr, _⟩ := HS.out.at_ hjl
      obtain ⟨A2, cap', hu, _⟩ := hTr.form
      obtain ⟨n', hn'⟩ : ∃ n', n' = l[j].l.length := ⟨_, rfl⟩
      rw [← hn'] at hu
      clear hn'
      subst hu hBa
      have hE' := hE.keep (HX.out.below.block _ hE.lt)
      have HT' := Lib.hid (hTr.below HX.out.below)
      have HMem := Lib.hid (List.getElem_mem hjl)
      have HTk : Hid ((l.take (j + 1)).map ev = (l.take j).map ev ++ [ev l[j]]) := by rw [take_snoc' (List.getElem?_eq_getElem hjl), List.map_append]; rfl
      have c0 := hE'.c0
      have c1 := hE'.c1
      have c2 := hE'.c2
      have c3 := hE'.c3
      have c4 := hE'.c4
      have c5 := hE'.c5
      clear hE hE' hTr
      generalize l[j] = y at c0 c1 c2 c3 c4 c5 HT' HMem HTk
      go_wp2_with (first
        | (go_at_call 68; refine (HR.out y _ M' _ HMem.out (HT'.out.below ((Below.refl _ _).alloc (Nat.le_refl _) _)) (HDw.out.below ((Below.refl _ _).alloc (Nat.le_refl _) _)) ((HX.out.below).alloc (HX.out.below.size) _)).mono ?_; rintro e w1 ⟨rfl, hb1⟩; have hown1 := (World.ownsRow.alloc hown _).kept (row := none) ⟨hb1.os, hb1.tape, hb1.output, hb1.size, fun q hq _ => hb1.block q hq⟩ (by cases h : Value.ownBlock _ with | none => exact .inl rfl | some _ => exact .inr (by simp)); have HB1 : Hid (Below w0.heap.size w0 w1) := (hb.alloc hbs _).trans (hb1.mono (by simp; omega)); have hs1 := hb1.size; (try simp at hs1); clear hb1 hown)
        | (at_builtin; refine wpList_append_own _ rfl _ _ 47 rfl w0.heap.size 26 i0 _ 3 32 Tryz.underlying47 hi hz0 hz1 hz2 rfl (by decide) _ _ _ rfl (World.ownsRow.alloc hown1 _) ⟨w1.heap.size, 0, none⟩ 1 1 (Vl.cells (ev y)) rfl rfl ?c1 ?c2 ?c3 ?c4 ?c5 ?_))
      case c1 => exact new_cells
      case c2 => intro u hu; exact cells_one [ev y] u (by simpa [cellsOf] using hu)
      case c3 => unfold maxLen; omega
      case c4 => omega
      case c5 => simp; omega
      intro v' w2 hown' hgrow _
      have hb2 := row_below HB1.out (Nat.le_refl _) hown1 hgrow
      have hown2 : w2.ownsRow w0.heap.size 26 3 v' (j + 1) (cellsOf ((l.take (j + 1)).map ev)) := by
        rw [HTk.out, cells_app]
        have e : cellsOf [ev y] = (ev y).cells := by simp [cellsOf]
        rw [e]
        first | exact hown' | (rw [List.map_take]; exact hown')
      have HO2 := Lib.hid hown2
      clear hown' hown1 hown2 hgrow
      go_wp2_with (fail)
      go_roundw
      case rel => exact ⟨j + 1, by omega, by go_num, hb2, HO2.out⟩
      case measure => simp [intOf]; omega
    · obtain rfl : p = j := by omega
      have hall : l.take p = l := List.take_of_length_le (by rw [HL.out]; exact Nat.le_refl _)
      rw [hall] at hown
      have HOw : Hid (wr.ownsRow w.heap.size 26 3 _ p (cellsOf (l.map ev))) := own_mono hown HW.out.below.size
      clear hall
      rcases hown.2 with ⟨_, h0⟩ | ⟨g, cap, cur, rfl, _, _, _, _, _, _⟩
      · omega
      clear hown
      have hrun := HK.out wr HDw.out
      have f0 := HX.out.r0
      have f1 := HX.out.r1
      have f2 := HX.out.r2
      have ff0 := HX.out.fz 0
      have ff1 := HX.out.fz 1
      have ff2 := HX.out.fz 2
      have hwr := HX.out.lt
      go_wp2_with (go_at_call 143; refine (HO.out g cap wr HDw.out HOw.out).mono ?_; rintro e w1 ⟨rfl, hb1⟩; have hc1 := (bcell hb1).1; have hf1 := (bcell hb1).2; have hy1 := hb1.size; have hz1 : w.heap.size + 2 < w1.heap.size := (by omega))
      refine bodyPost_ret (v := .agg #[.int .i64 R.k, .int .i64 R.i, .string R.s]) (by simp [results, Tryz.results68, go_sem, *]; done) rfl ⟨rfl, ?_⟩
      exact cSet3 (by omega) (HX.out.below.trans (hb1.mono (HX.out.below.size))) _ _ _

set_option maxRecDepth 100000 in
set_option maxHeartbeats 4000000 in
theorem value_two (A : Option Addr) (n c : Nat) (cols : List Cl) (A' : Option Addr) (m c' : Nat) (row : List Vl) (r : Nat) (op : ByteArray) (b : Nat) (v0 v1 v2 v3 v4 v5 v6 v7 : Value) (B : Option Addr) (p d : Nat) (hp : p ≤ 1000) (hp1 : 1 ≤ p) (l : List Ex) (ev : Ex → Vl) (R : Vl) (P : Nat → Prop) (M : Nat) (k i : Int) (vs s : ByteArray) (w : World) (h1 : (op.toList == [108, 105, 116]) = false) (h2 : (op.toList == [99, 111, 108]) = false) (hD : Does w r v0 v1 v2 v3 v4 v5 v6 v7) (hS : Sl w P M l (.slice B p d)) (hl : l.length = p)
    (hlook : ∀ W, Does W r v0 v1 v2 v3 v4 v5 v6 v7 → (Instr.lookup 93 (.map (some r)) (.string op) false).run Tryz.prog W = .ok (.func (.func 147) #[] #[.pointer (some ⟨b, 0, none⟩)]) W)
    (hrec : ∀ (t : Ex) (u : Value) (M : Nat) (W : World), t ∈ l → Tr W P M t u → Does W r v0 v1 v2 v3 v4 v5 v6 v7 → Below w.heap.size w W → Calls Tryz.prog 68 #[.agg #[.slice A n c, .slice A' m c', .map (some r)], EVt t u] W fun e w' => e = .returned (.agg #[.int .i64 (ev t).k, .int .i64 (ev t).i, .string (ev t).s]) ∧ Below W.heap.size W w')
    (hdo : ∀ (g cap : Nat) (W : World), Does W r v0 v1 v2 v3 v4 v5 v6 v7 → W.ownsRow w.heap.size 26 3 (.slice (some ⟨g, 0, none⟩) p cap) p (cellsOf (l.map ev)) → Calls Tryz.prog 147 #[.slice (some ⟨g, 0, none⟩) p cap, .pointer (some ⟨b, 0, none⟩)] W fun e w' => e = .returned (.agg #[.int .i64 R.k, .int .i64 R.i, .string R.s]) ∧ Below W.heap.size W w') :
    Calls Tryz.prog 68 #[.agg #[.slice A n c, .slice A' m c', .map (some r)], .agg #[.string op, .int .i64 k, .int .i64 i, .string vs, .string s, .slice B p d]] w fun e w' => e = .returned (.agg #[.int .i64 R.k, .int .i64 R.i, .string R.s]) ∧ Below w.heap.size w w' := by
  obtain ⟨i0, hi, hz0, hz1, hz2⟩ := info_parts infoVal
  have HD := Lib.hid hD
  have HS := Lib.hid hS
  have HL := Lib.hid hl
  have HK := Lib.hid hlook
  have HR := Lib.hid hrec
  have HO := Lib.hid hdo
  clear hD hS hl hlook hrec hdo
  go_enter Tryz.func68, Tryz.ntmps68
  go_wp2_with (fail)
  refine wp_gen (Boxo w (.slice A n c) (.slice A' m c') r op) (Boxo.start w _ _ r op k i vs s _) fun w0 hw0 => ?_
  have HW := Lib.hid hw0
  have hwl := hw0.lt
  clear hw0
  go_loopw [5, 23] (fun v iv wr => ∃ j : Nat, j ≤ p ∧ iv = .int .i64 j ∧ Below w0.heap.size w0 wr ∧ wr.ownsRow w0.heap.size 26 3 v j (cellsOf ((l.take j).map ev))) (fun _ iv _ => p - (intOf iv).toNat)
  case atStart => exact ⟨0, by omega, rfl, Below.refl _ _, World.ownsRow_nil _ _ _ _⟩
  case round =>
    obtain ⟨j, hj, rfl, hb, hown⟩ := hrel
    have hbs := hb.size
    have HX := Lib.hid (HW.out.later hb)
    have e0 := HX.out.o0
    have e1 := HX.out.o1
    have e2 := HX.out.o2
    have e3 := HX.out.e0
    have HDw := Lib.hid (HD.out.below ((HX.out.below)))
    have hzz0 : w.heap.size < wr.heap.size := by omega
    have hzz1 : w.heap.size + 1 < wr.heap.size := by omega
    by_cases hlt : j < p
    · have hjl : j < l.length := by rw [HL.out]; exact hlt
      obtain ⟨a, u', M', hBa, hPa, hE, hTr, _⟩ := HS.out.at_ hjl
      obtain ⟨A2, cap', hu, _⟩ := hTr.form
      obtain ⟨n', hn'⟩ : ∃ n', n' = l[j].l.length := ⟨_, rfl⟩
      rw [← hn'] at hu
      clear hn'
      subst hu hBa
      have hE' := hE.keep (HX.out.below.block _ hE.lt)
      have HT' := Lib.hid (hTr.below HX.out.below)
      have HMem := Lib.hid (List.getElem_mem hjl)
      have HTk : Hid ((l.take (j + 1)).map ev = (l.take j).map ev ++ [ev l[j]]) := by rw [take_snoc' (List.getElem?_eq_getElem hjl), List.map_append]; rfl
      have c0 := hE'.c0
      have c1 := hE'.c1
      have c2 := hE'.c2
      have c3 := hE'.c3
      have c4 := hE'.c4
      have c5 := hE'.c5
      clear hE hE' hTr
      generalize l[j] = y at c0 c1 c2 c3 c4 c5 HT' HMem HTk
      go_wp2_with (first
        | (go_at_call 68; refine (HR.out y _ M' _ HMem.out (HT'.out.below ((Below.refl _ _).alloc (Nat.le_refl _) _)) (HDw.out.below ((Below.refl _ _).alloc (Nat.le_refl _) _)) ((HX.out.below).alloc (HX.out.below.size) _)).mono ?_; rintro e w1 ⟨rfl, hb1⟩; have hown1 := (World.ownsRow.alloc hown _).kept (row := none) ⟨hb1.os, hb1.tape, hb1.output, hb1.size, fun q hq _ => hb1.block q hq⟩ (by cases h : Value.ownBlock _ with | none => exact .inl rfl | some _ => exact .inr (by simp)); have HB1 : Hid (Below w0.heap.size w0 w1) := (hb.alloc hbs _).trans (hb1.mono (by simp; omega)); have hs1 := hb1.size; (try simp at hs1); clear hb1 hown)
        | (at_builtin; refine wpList_append_own _ rfl _ _ 47 rfl w0.heap.size 26 i0 _ 3 32 Tryz.underlying47 hi hz0 hz1 hz2 rfl (by decide) _ _ _ rfl (World.ownsRow.alloc hown1 _) ⟨w1.heap.size, 0, none⟩ 1 1 (Vl.cells (ev y)) rfl rfl ?c1 ?c2 ?c3 ?c4 ?c5 ?_))
      case c1 => exact new_cells
      case c2 => intro u hu; exact cells_one [ev y] u (by simpa [cellsOf] using hu)
      case c3 => unfold maxLen; omega
      case c4 => omega
      case c5 => simp; omega
      intro v' w2 hown' hgrow _
      have hb2 := row_below HB1.out (Nat.le_refl _) hown1 hgrow
      have hown2 : w2.ownsRow w0.heap.size 26 3 v' (j + 1) (cellsOf ((l.take (j + 1)).map ev)) := by
        rw [HTk.out, cells_app]
        have e : cellsOf [ev y] = (ev y).cells := by simp [cellsOf]
        rw [e]
        first | exact hown' | (rw [List.map_take]; exact hown')
      have HO2 := Lib.hid hown2
      clear hown' hown1 hown2 hgrow
      go_wp2_with (fail)
      go_roundw
      case rel => exact ⟨j + 1, by omega, by go_num, hb2, HO2.out⟩
      case measure => simp [intOf]; omega
    · obtain rfl : p = j := by omega
      have hall : l.take p = l := List.take_of_length_le (by rw [HL.out]; exact Nat.le_refl _)
      rw [hall] at hown
      have HOw : Hid (wr.ownsRow w.heap.size 26 3 _ p (cellsOf (l.map ev))) := own_mono hown HW.out.below.size
      clear hall
      rcases hown.2 with ⟨_, h0⟩ | ⟨g, cap, cur, rfl, _, _, _, _, _, _⟩
      · omega
      clear hown
      have hrun := HK.out wr HDw.out
      have f0 := HX.out.r0
      have f1 := HX.out.r1
      have f2 := HX.out.r2
      have ff0 := HX.out.fz 0
      have ff1 := HX.out.fz 1
      have ff2 := HX.out.fz 2
      have hwr := HX.out.lt
      go_wp2_with (go_at_call 147; refine (HO.out g cap wr HDw.out HOw.out).mono ?_; rintro e w1 ⟨rfl, hb1⟩; have hc1 := (bcell hb1).1; have hf1 := (bcell hb1).2; have hy1 := hb1.size; have hz1 : w.heap.size + 2 < w1.heap.size := (by omega))
      refine bodyPost_ret (v := .agg #[.int .i64 R.k, .int .i64 R.i, .string R.s]) (by simp [results, Tryz.results68, go_sem, *]; done) rfl ⟨rfl, ?_⟩
      exact cSet3 (by omega) (HX.out.below.trans (hb1.mono (HX.out.below.size))) _ _ _

end Go.Proofs.YtmhkmliebhbkdaaGreat

/- What an expression comes to over a row: value, Eval, all Ops. -/
namespace Go.Proofs.YtmhkmliebhbkdaaGreat
open Go.RowKit Go.Lib

theorem val_0 (A : Option Addr) (n c : Nat) (A' : Option Addr) (m c' : Nat) (r : Nat) (v0 v1 v2 v3 v4 v5 v6 v7 : Value) (k i : Int) (vs s : ByteArray) (B : Option Addr) (d : Nat) (y : Ex) (ev : Ex → Vl) (P : Nat → Prop) (M : Nat) (w : World) (hD : Does w r v0 v1 v2 v3 v4 v5 v6 v7) (hS : Sl w P M [y] (.slice B 1 d))
    (hrec : ∀ (t : Ex) (u : Value) (M : Nat) (W : World), t ∈ [y] → Tr W P M t u → Does W r v0 v1 v2 v3 v4 v5 v6 v7 → Below w.heap.size w W → Calls Tryz.prog 68 #[.agg #[.slice A n c, .slice A' m c', .map (some r)], EVt t u] W fun e w' => e = .returned (.agg #[.int .i64 (ev t).k, .int .i64 (ev t).i, .string (ev t).s]) ∧ Below W.heap.size W w') :
    Calls Tryz.prog 68 #[.agg #[.slice A n c, .slice A' m c', .map (some r)], .agg #[.string ⟨#[110, 111, 116]⟩, .int .i64 k, .int .i64 i, .string vs, .string s, .slice B 1 d]] w fun e w' => e = .returned (.agg #[.int .i64 (notV (ev y)).k, .int .i64 (notV (ev y)).i, .string (notV (ev y)).s]) ∧ Below w.heap.size w w' := by
  obtain ⟨b, hv, _⟩ := hD.c0
  refine value_one A n c [] A' m c' [] r ⟨#[110, 111, 116]⟩ b v0 v1 v2 v3 v4 v5 v6 v7 B 1 d (by omega) (by omega) [y] ev _ P M k i vs s w (by rw [toList_data]; decide) (by rw [toList_data]; decide) hD hS rfl (fun W hW => ?_) hrec (fun g cap W hW hown => ?_)
  · rw [← hv]
    exact hW.map.look Tryz.underlying93 Tryz.underlying9 rfl
  · obtain ⟨b', hv', hcb⟩ := hW.c0
    have e := hv.symm.trans hv'
    injection e with _ _ e
    have e : b = b' := by simpa using e
    subst e
    obtain ⟨g', cap', e1, h0, h1, h2⟩ := own_one (W := W) (B := w.heap.size) (x := ev y) hown
    injection e1 with e1 _ _
    have e1 : g = g' := by simpa using e1
    subst e1
    exact does_0 g 1 cap (ev y) b W (by omega) hcb h0 h1 h2

theorem val_1 (A : Option Addr) (n c : Nat) (A' : Option Addr) (m c' : Nat) (r : Nat) (v0 v1 v2 v3 v4 v5 v6 v7 : Value) (k i : Int) (vs s : ByteArray) (B : Option Addr) (d : Nat) (y : Ex) (ev : Ex → Vl) (P : Nat → Prop) (M : Nat) (w : World) (hD : Does w r v0 v1 v2 v3 v4 v5 v6 v7) (hS : Sl w P M [y] (.slice B 1 d))
    (hrec : ∀ (t : Ex) (u : Value) (M : Nat) (W : World), t ∈ [y] → Tr W P M t u → Does W r v0 v1 v2 v3 v4 v5 v6 v7 → Below w.heap.size w W → Calls Tryz.prog 68 #[.agg #[.slice A n c, .slice A' m c', .map (some r)], EVt t u] W fun e w' => e = .returned (.agg #[.int .i64 (ev t).k, .int .i64 (ev t).i, .string (ev t).s]) ∧ Below W.heap.size W w') :
    Calls Tryz.prog 68 #[.agg #[.slice A n c, .slice A' m c', .map (some r)], .agg #[.string ⟨#[110, 117, 108, 108]⟩, .int .i64 k, .int .i64 i, .string vs, .string s, .slice B 1 d]] w fun e w' => e = .returned (.agg #[.int .i64 (isnV (ev y)).k, .int .i64 (isnV (ev y)).i, .string (isnV (ev y)).s]) ∧ Below w.heap.size w w' := by
  obtain ⟨b, hv, _⟩ := hD.c1
  refine value_one A n c [] A' m c' [] r ⟨#[110, 117, 108, 108]⟩ b v0 v1 v2 v3 v4 v5 v6 v7 B 1 d (by omega) (by omega) [y] ev _ P M k i vs s w (by rw [toList_data]; decide) (by rw [toList_data]; decide) hD hS rfl (fun W hW => ?_) hrec (fun g cap W hW hown => ?_)
  · rw [← hv]
    exact hW.map.look Tryz.underlying93 Tryz.underlying9 rfl
  · obtain ⟨b', hv', hcb⟩ := hW.c1
    have e := hv.symm.trans hv'
    injection e with _ _ e
    have e : b = b' := by simpa using e
    subst e
    obtain ⟨g', cap', e1, h0, h1, h2⟩ := own_one (W := W) (B := w.heap.size) (x := ev y) hown
    injection e1 with e1 _ _
    have e1 : g = g' := by simpa using e1
    subst e1
    exact does_1 g 1 cap (ev y) b W (by omega) hcb h0 h1 h2

theorem val_2 (A : Option Addr) (n c : Nat) (A' : Option Addr) (m c' : Nat) (r : Nat) (v0 v1 v2 v3 v4 v5 v6 v7 : Value) (k i : Int) (vs s : ByteArray) (B : Option Addr) (d : Nat) (y z : Ex) (ev : Ex → Vl) (P : Nat → Prop) (M : Nat) (w : World) (hD : Does w r v0 v1 v2 v3 v4 v5 v6 v7) (hS : Sl w P M [y, z] (.slice B 2 d))
    (hrec : ∀ (t : Ex) (u : Value) (M : Nat) (W : World), t ∈ [y, z] → Tr W P M t u → Does W r v0 v1 v2 v3 v4 v5 v6 v7 → Below w.heap.size w W → Calls Tryz.prog 68 #[.agg #[.slice A n c, .slice A' m c', .map (some r)], EVt t u] W fun e w' => e = .returned (.agg #[.int .i64 (ev t).k, .int .i64 (ev t).i, .string (ev t).s]) ∧ Below W.heap.size W w') :
    Calls Tryz.prog 68 #[.agg #[.slice A n c, .slice A' m c', .map (some r)], .agg #[.string ⟨#[97, 110, 100]⟩, .int .i64 k, .int .i64 i, .string vs, .string s, .slice B 2 d]] w fun e w' => e = .returned (.agg #[.int .i64 (andV (ev y) (ev z)).k, .int .i64 (andV (ev y) (ev z)).i, .string (andV (ev y) (ev z)).s]) ∧ Below w.heap.size w w' := by
  obtain ⟨b, hv, _⟩ := hD.c2
  refine value_two A n c [] A' m c' [] r ⟨#[97, 110, 100]⟩ b v0 v1 v2 v3 v4 v5 v6 v7 B 2 d (by omega) (by omega) [y, z] ev _ P M k i vs s w (by rw [toList_data]; decide) (by rw [toList_data]; decide) hD hS rfl (fun W hW => ?_) hrec (fun g cap W hW hown => ?_)
  · rw [← hv]
    exact hW.map.look Tryz.underlying93 Tryz.underlying9 rfl
  · obtain ⟨b', hv', hcb⟩ := hW.c2
    have e := hv.symm.trans hv'
    injection e with _ _ e
    have e : b = b' := by simpa using e
    subst e
    obtain ⟨g', cap', e1, ⟨h0, h1, h2⟩, h3, h4, h5⟩ := own_two (W := W) (B := w.heap.size) (x := ev y) (y := ev z) hown
    injection e1 with e1 _ _
    have e1 : g = g' := by simpa using e1
    subst e1
    exact does_2 g 2 cap (ev y) (ev z) b W (by omega) hcb h0 h1 h2 h3 h4 h5

theorem val_3 (A : Option Addr) (n c : Nat) (A' : Option Addr) (m c' : Nat) (r : Nat) (v0 v1 v2 v3 v4 v5 v6 v7 : Value) (k i : Int) (vs s : ByteArray) (B : Option Addr) (d : Nat) (y z : Ex) (ev : Ex → Vl) (P : Nat → Prop) (M : Nat) (w : World) (hD : Does w r v0 v1 v2 v3 v4 v5 v6 v7) (hS : Sl w P M [y, z] (.slice B 2 d))
    (hrec : ∀ (t : Ex) (u : Value) (M : Nat) (W : World), t ∈ [y, z] → Tr W P M t u → Does W r v0 v1 v2 v3 v4 v5 v6 v7 → Below w.heap.size w W → Calls Tryz.prog 68 #[.agg #[.slice A n c, .slice A' m c', .map (some r)], EVt t u] W fun e w' => e = .returned (.agg #[.int .i64 (ev t).k, .int .i64 (ev t).i, .string (ev t).s]) ∧ Below W.heap.size W w') :
    Calls Tryz.prog 68 #[.agg #[.slice A n c, .slice A' m c', .map (some r)], .agg #[.string ⟨#[111, 114]⟩, .int .i64 k, .int .i64 i, .string vs, .string s, .slice B 2 d]] w fun e w' => e = .returned (.agg #[.int .i64 (orV (ev y) (ev z)).k, .int .i64 (orV (ev y) (ev z)).i, .string (orV (ev y) (ev z)).s]) ∧ Below w.heap.size w w' := by
  obtain ⟨b, hv, _⟩ := hD.c3
  refine value_two A n c [] A' m c' [] r ⟨#[111, 114]⟩ b v0 v1 v2 v3 v4 v5 v6 v7 B 2 d (by omega) (by omega) [y, z] ev _ P M k i vs s w (by rw [toList_data]; decide) (by rw [toList_data]; decide) hD hS rfl (fun W hW => ?_) hrec (fun g cap W hW hown => ?_)
  · rw [← hv]
    exact hW.map.look Tryz.underlying93 Tryz.underlying9 rfl
  · obtain ⟨b', hv', hcb⟩ := hW.c3
    have e := hv.symm.trans hv'
    injection e with _ _ e
    have e : b = b' := by simpa using e
    subst e
    obtain ⟨g', cap', e1, ⟨h0, h1, h2⟩, h3, h4, h5⟩ := own_two (W := W) (B := w.heap.size) (x := ev y) (y := ev z) hown
    injection e1 with e1 _ _
    have e1 : g = g' := by simpa using e1
    subst e1
    exact does_3 g 2 cap (ev y) (ev z) b W (by omega) hcb h0 h1 h2 h3 h4 h5

theorem val_4 (A : Option Addr) (n c : Nat) (A' : Option Addr) (m c' : Nat) (r : Nat) (v0 v1 v2 v3 v4 v5 v6 v7 : Value) (k i : Int) (vs s : ByteArray) (B : Option Addr) (d : Nat) (y z : Ex) (ev : Ex → Vl) (P : Nat → Prop) (M : Nat) (w : World) (hD : Does w r v0 v1 v2 v3 v4 v5 v6 v7) (hS : Sl w P M [y, z] (.slice B 2 d))
    (hrec : ∀ (t : Ex) (u : Value) (M : Nat) (W : World), t ∈ [y, z] → Tr W P M t u → Does W r v0 v1 v2 v3 v4 v5 v6 v7 → Below w.heap.size w W → Calls Tryz.prog 68 #[.agg #[.slice A n c, .slice A' m c', .map (some r)], EVt t u] W fun e w' => e = .returned (.agg #[.int .i64 (ev t).k, .int .i64 (ev t).i, .string (ev t).s]) ∧ Below W.heap.size W w') :
    Calls Tryz.prog 68 #[.agg #[.slice A n c, .slice A' m c', .map (some r)], .agg #[.string ⟨#[61]⟩, .int .i64 k, .int .i64 i, .string vs, .string s, .slice B 2 d]] w fun e w' => e = .returned (.agg #[.int .i64 (eqV (ev y) (ev z)).k, .int .i64 (eqV (ev y) (ev z)).i, .string (eqV (ev y) (ev z)).s]) ∧ Below w.heap.size w w' := by
  obtain ⟨b, hv, _⟩ := hD.c4
  refine value_two A n c [] A' m c' [] r ⟨#[61]⟩ b v0 v1 v2 v3 v4 v5 v6 v7 B 2 d (by omega) (by omega) [y, z] ev _ P M k i vs s w (by rw [toList_data]; decide) (by rw [toList_data]; decide) hD hS rfl (fun W hW => ?_) hrec (fun g cap W hW hown => ?_)
  · rw [← hv]
    exact hW.map.look Tryz.underlying93 Tryz.underlying9 rfl
  · obtain ⟨b', hv', hcb⟩ := hW.c4
    have e := hv.symm.trans hv'
    injection e with _ _ e
    have e : b = b' := by simpa using e
    subst e
    obtain ⟨g', cap', e1, ⟨h0, h1, h2⟩, h3, h4, h5⟩ := own_two (W := W) (B := w.heap.size) (x := ev y) (y := ev z) hown
    injection e1 with e1 _ _
    have e1 : g = g' := by simpa using e1
    subst e1
    exact does_4 g 2 cap (ev y) (ev z) b W (by omega) hcb h0 h1 h2 h3 h4 h5

theorem val_5 (A : Option Addr) (n c : Nat) (A' : Option Addr) (m c' : Nat) (r : Nat) (v0 v1 v2 v3 v4 v5 v6 v7 : Value) (k i : Int) (vs s : ByteArray) (B : Option Addr) (d : Nat) (y z : Ex) (ev : Ex → Vl) (P : Nat → Prop) (M : Nat) (w : World) (hD : Does w r v0 v1 v2 v3 v4 v5 v6 v7) (hS : Sl w P M [y, z] (.slice B 2 d))
    (hrec : ∀ (t : Ex) (u : Value) (M : Nat) (W : World), t ∈ [y, z] → Tr W P M t u → Does W r v0 v1 v2 v3 v4 v5 v6 v7 → Below w.heap.size w W → Calls Tryz.prog 68 #[.agg #[.slice A n c, .slice A' m c', .map (some r)], EVt t u] W fun e w' => e = .returned (.agg #[.int .i64 (ev t).k, .int .i64 (ev t).i, .string (ev t).s]) ∧ Below W.heap.size W w') :
    Calls Tryz.prog 68 #[.agg #[.slice A n c, .slice A' m c', .map (some r)], .agg #[.string ⟨#[60]⟩, .int .i64 k, .int .i64 i, .string vs, .string s, .slice B 2 d]] w fun e w' => e = .returned (.agg #[.int .i64 (lessV (ev y) (ev z)).k, .int .i64 (lessV (ev y) (ev z)).i, .string (lessV (ev y) (ev z)).s]) ∧ Below w.heap.size w w' := by
  obtain ⟨b, hv, _⟩ := hD.c5
  refine value_two A n c [] A' m c' [] r ⟨#[60]⟩ b v0 v1 v2 v3 v4 v5 v6 v7 B 2 d (by omega) (by omega) [y, z] ev _ P M k i vs s w (by rw [toList_data]; decide) (by rw [toList_data]; decide) hD hS rfl (fun W hW => ?_) hrec (fun g cap W hW hown => ?_)
  · rw [← hv]
    exact hW.map.look Tryz.underlying93 Tryz.underlying9 rfl
  · obtain ⟨b', hv', hcb⟩ := hW.c5
    have e := hv.symm.trans hv'
    injection e with _ _ e
    have e : b = b' := by simpa using e
    subst e
    obtain ⟨g', cap', e1, ⟨h0, h1, h2⟩, h3, h4, h5⟩ := own_two (W := W) (B := w.heap.size) (x := ev y) (y := ev z) hown
    injection e1 with e1 _ _
    have e1 : g = g' := by simpa using e1
    subst e1
    exact does_5 g 2 cap (ev y) (ev z) b W (by omega) hcb h0 h1 h2 h3 h4 h5

theorem val_6 (A : Option Addr) (n c : Nat) (A' : Option Addr) (m c' : Nat) (r : Nat) (v0 v1 v2 v3 v4 v5 v6 v7 : Value) (k i : Int) (vs s : ByteArray) (B : Option Addr) (d : Nat) (y z : Ex) (ev : Ex → Vl) (P : Nat → Prop) (M : Nat) (w : World) (hD : Does w r v0 v1 v2 v3 v4 v5 v6 v7) (hS : Sl w P M [y, z] (.slice B 2 d))
    (hrec : ∀ (t : Ex) (u : Value) (M : Nat) (W : World), t ∈ [y, z] → Tr W P M t u → Does W r v0 v1 v2 v3 v4 v5 v6 v7 → Below w.heap.size w W → Calls Tryz.prog 68 #[.agg #[.slice A n c, .slice A' m c', .map (some r)], EVt t u] W fun e w' => e = .returned (.agg #[.int .i64 (ev t).k, .int .i64 (ev t).i, .string (ev t).s]) ∧ Below W.heap.size W w') :
    Calls Tryz.prog 68 #[.agg #[.slice A n c, .slice A' m c', .map (some r)], .agg #[.string ⟨#[43]⟩, .int .i64 k, .int .i64 i, .string vs, .string s, .slice B 2 d]] w fun e w' => e = .returned (.agg #[.int .i64 (plusV (ev y) (ev z)).k, .int .i64 (plusV (ev y) (ev z)).i, .string (plusV (ev y) (ev z)).s]) ∧ Below w.heap.size w w' := by
  obtain ⟨b, hv, _⟩ := hD.c6
  refine value_two A n c [] A' m c' [] r ⟨#[43]⟩ b v0 v1 v2 v3 v4 v5 v6 v7 B 2 d (by omega) (by omega) [y, z] ev _ P M k i vs s w (by rw [toList_data]; decide) (by rw [toList_data]; decide) hD hS rfl (fun W hW => ?_) hrec (fun g cap W hW hown => ?_)
  · rw [← hv]
    exact hW.map.look Tryz.underlying93 Tryz.underlying9 rfl
  · obtain ⟨b', hv', hcb⟩ := hW.c6
    have e := hv.symm.trans hv'
    injection e with _ _ e
    have e : b = b' := by simpa using e
    subst e
    obtain ⟨g', cap', e1, ⟨h0, h1, h2⟩, h3, h4, h5⟩ := own_two (W := W) (B := w.heap.size) (x := ev y) (y := ev z) hown
    injection e1 with e1 _ _
    have e1 : g = g' := by simpa using e1
    subst e1
    exact does_6 g 2 cap (ev y) (ev z) b W (by omega) hcb h0 h1 h2 h3 h4 h5

theorem val_7 (A : Option Addr) (n c : Nat) (A' : Option Addr) (m c' : Nat) (r : Nat) (v0 v1 v2 v3 v4 v5 v6 v7 : Value) (k i : Int) (vs s : ByteArray) (B : Option Addr) (d : Nat) (y z : Ex) (ev : Ex → Vl) (P : Nat → Prop) (M : Nat) (w : World) (hD : Does w r v0 v1 v2 v3 v4 v5 v6 v7) (hS : Sl w P M [y, z] (.slice B 2 d))
    (hrec : ∀ (t : Ex) (u : Value) (M : Nat) (W : World), t ∈ [y, z] → Tr W P M t u → Does W r v0 v1 v2 v3 v4 v5 v6 v7 → Below w.heap.size w W → Calls Tryz.prog 68 #[.agg #[.slice A n c, .slice A' m c', .map (some r)], EVt t u] W fun e w' => e = .returned (.agg #[.int .i64 (ev t).k, .int .i64 (ev t).i, .string (ev t).s]) ∧ Below W.heap.size W w') :
    Calls Tryz.prog 68 #[.agg #[.slice A n c, .slice A' m c', .map (some r)], .agg #[.string ⟨#[45]⟩, .int .i64 k, .int .i64 i, .string vs, .string s, .slice B 2 d]] w fun e w' => e = .returned (.agg #[.int .i64 (minusV (ev y) (ev z)).k, .int .i64 (minusV (ev y) (ev z)).i, .string (minusV (ev y) (ev z)).s]) ∧ Below w.heap.size w w' := by
  obtain ⟨b, hv, _⟩ := hD.c7
  refine value_two A n c [] A' m c' [] r ⟨#[45]⟩ b v0 v1 v2 v3 v4 v5 v6 v7 B 2 d (by omega) (by omega) [y, z] ev _ P M k i vs s w (by rw [toList_data]; decide) (by rw [toList_data]; decide) hD hS rfl (fun W hW => ?_) hrec (fun g cap W hW hown => ?_)
  · rw [← hv]
    exact hW.map.look Tryz.underlying93 Tryz.underlying9 rfl
  · obtain ⟨b', hv', hcb⟩ := hW.c7
    have e := hv.symm.trans hv'
    injection e with _ _ e
    have e : b = b' := by simpa using e
    subst e
    obtain ⟨g', cap', e1, ⟨h0, h1, h2⟩, h3, h4, h5⟩ := own_two (W := W) (B := w.heap.size) (x := ev y) (y := ev z) hown
    injection e1 with e1 _ _
    have e1 : g = g' := by simpa using e1
    subst e1
    exact does_7 g 2 cap (ev y) (ev z) b W (by omega) hcb h0 h1 h2 h3 h4 h5

theorem len_one {l : List Ex} (h : l.length = 1) : ∃ y, l = [y] := by
  match l, h with
  | [y], _ => exact ⟨y, rfl⟩
theorem len_two {l : List Ex} (h : l.length = 2) : ∃ y z, l = [y, z] := by
  match l, h with
  | [y, z], _ => exact ⟨y, z, rfl⟩
theorem fm_cases {op : ByteArray} {k i : Int} {vs s : ByteArray} {n : Nat} (h : fmB op k i vs s n = true) :
    op.toList = [108, 105, 116] ∨ op.toList = [99, 111, 108] ∨ (n = 1 ∧ (op.toList = [110, 111, 116] ∨ op.toList = [110, 117, 108, 108])) ∨ (n = 2 ∧ (op.toList = [97, 110, 100] ∨ op.toList = [111, 114] ∨ op.toList = [61] ∨ op.toList = [60] ∨ op.toList = [43] ∨ op.toList = [45])) := by
  unfold fmB at h
  split at h
  · exact .inl ‹_›
  · split at h
    · exact .inr (.inl ‹_›)
    · split at h
      · refine .inr (.inr (.inl ⟨?_, ‹_›⟩))
        simp [fmOne] at h
        exact h.2.2
      · split at h
        · refine .inr (.inr (.inr ⟨?_, ?_⟩))
          · simp [fmTwo] at h
            exact h.2.2
          · rename_i hm
            simpa using hm
        · cases h

theorem evalF_lit {cols : List Cl} {row : List Vl} {n : Nat} {t : Ex} (h : t.op.toList = [108, 105, 116]) : evalF cols row (n + 1) t = t.x := by
  conv => lhs; unfold evalF
  rw [if_pos h]
theorem evalF_col {cols : List Cl} {row : List Vl} {n : Nat} {t : Ex} (h : t.op.toList = [99, 111, 108]) : evalF cols row (n + 1) t = colV cols row t.s := by
  conv => lhs; unfold evalF
  rw [if_neg (by rw [h]; decide), if_pos h]
theorem evalF_op {cols : List Cl} {row : List Vl} {n : Nat} {t : Ex} {o : List UInt8} (h : t.op.toList = o) (h1 : o ≠ [108, 105, 116]) (h2 : o ≠ [99, 111, 108]) : evalF cols row (n + 1) t = opF o (t.l.map (evalF cols row n)) := by
  conv => lhs; unfold evalF
  rw [if_neg (by rw [h]; exact h1), if_neg (by rw [h]; exact h2), h]

set_option maxHeartbeats 1600000 in
theorem value_any (A : Option Addr) (n c : Nat) (cols : List Cl) (A' : Option Addr) (m c' : Nat) (row : List Vl) (r : Nat) (v0 v1 v2 v3 v4 v5 v6 v7 : Value) (hm : m ≤ maxLen) (P : Nat → Prop) : ∀ (d : Nat) (t : Ex) (u : Value) (N : Nat) (w : World), wfF d t → Tr w P N t u → Does w r v0 v1 v2 v3 v4 v5 v6 v7 → ColS w A n cols → Vals w w.heap.size A' m row →
    Calls Tryz.prog 68 #[.agg #[.slice A n c, .slice A' m c', .map (some r)], EVt t u] w fun e w' => e = .returned (.agg #[.int .i64 (evalF cols row d t).k, .int .i64 (evalF cols row d t).i, .string (evalF cols row d t).s]) ∧ Below w.heap.size w w'
  | 0, _, _, _, _, h, _, _, _, _ => h.elim
  | d + 1, t, u, N, w, ⟨hf, hp⟩, ht, hD, hc, hv => by
    have hrec : ∀ (y : Ex) (u : Value) (M : Nat) (W : World), y ∈ t.l → Tr W P M y u → Does W r v0 v1 v2 v3 v4 v5 v6 v7 → Below w.heap.size w W → Calls Tryz.prog 68 #[.agg #[.slice A n c, .slice A' m c', .map (some r)], EVt y u] W fun e w' => e = .returned (.agg #[.int .i64 (evalF cols row d y).k, .int .i64 (evalF cols row d y).i, .string (evalF cols row d y).s]) ∧ Below W.heap.size W w' :=
      fun y u M W hy hT hDW hb => value_any A n c cols A' m c' row r v0 v1 v2 v3 v4 v5 v6 v7 hm P d y u M W (hp y hy) hT hDW (hc.below hb) ((hv.keep hb).more hb.size)
    obtain ⟨B, q, rfl, _⟩ := ht.form
    have hS := ht.2
    cases t with
    | mk op x s l =>
    obtain ⟨k, i, vs⟩ := x
    unfold EVt
    simp only [Ex.op, Ex.x, Ex.s, Ex.l] at hrec hS ⊢
    have hf' : fmB op k i vs s l.length = true := hf
    clear hf hp ht
    rcases fm_cases hf' with h | h | ⟨hn, h⟩ | ⟨hn, h⟩
    · obtain rfl := bytes_of h
      rw [evalF_lit (show (Ex.mk _ ⟨k, i, vs⟩ s l).op.toList = _ from h)]
      exact value_lit A n c [] A' m c' [] r B l.length q k i vs s w
    · obtain rfl := bytes_of h
      rw [evalF_col (show (Ex.mk _ ⟨k, i, vs⟩ s l).op.toList = _ from h)]
      exact value_col A n c cols A' m c' row r B l.length q k i vs s w hc hv hm
    · obtain ⟨y, rfl⟩ := len_one hn
      rcases h with h | h
      · obtain rfl := bytes_of h
        rw [evalF_op (show (Ex.mk _ ⟨k, i, vs⟩ s [y]).op.toList = _ from h) (by decide) (by decide)]
        exact val_0 A n c A' m c' r v0 v1 v2 v3 v4 v5 v6 v7 k i vs s B q y (evalF cols row d) P N w hD hS hrec
      · obtain rfl := bytes_of h
        rw [evalF_op (show (Ex.mk _ ⟨k, i, vs⟩ s [y]).op.toList = _ from h) (by decide) (by decide)]
        exact val_1 A n c A' m c' r v0 v1 v2 v3 v4 v5 v6 v7 k i vs s B q y (evalF cols row d) P N w hD hS hrec
    · obtain ⟨y, z, rfl⟩ := len_two hn
      rcases h with h | h | h | h | h | h
      · obtain rfl := bytes_of h
        rw [evalF_op (show (Ex.mk _ ⟨k, i, vs⟩ s [y, z]).op.toList = _ from h) (by decide) (by decide)]
        exact val_2 A n c A' m c' r v0 v1 v2 v3 v4 v5 v6 v7 k i vs s B q y z (evalF cols row d) P N w hD hS hrec
      · obtain rfl := bytes_of h
        rw [evalF_op (show (Ex.mk _ ⟨k, i, vs⟩ s [y, z]).op.toList = _ from h) (by decide) (by decide)]
        exact val_3 A n c A' m c' r v0 v1 v2 v3 v4 v5 v6 v7 k i vs s B q y z (evalF cols row d) P N w hD hS hrec
      · obtain rfl := bytes_of h
        rw [evalF_op (show (Ex.mk _ ⟨k, i, vs⟩ s [y, z]).op.toList = _ from h) (by decide) (by decide)]
        exact val_4 A n c A' m c' r v0 v1 v2 v3 v4 v5 v6 v7 k i vs s B q y z (evalF cols row d) P N w hD hS hrec
      · obtain rfl := bytes_of h
        rw [evalF_op (show (Ex.mk _ ⟨k, i, vs⟩ s [y, z]).op.toList = _ from h) (by decide) (by decide)]
        exact val_5 A n c A' m c' r v0 v1 v2 v3 v4 v5 v6 v7 k i vs s B q y z (evalF cols row d) P N w hD hS hrec
      · obtain rfl := bytes_of h
        rw [evalF_op (show (Ex.mk _ ⟨k, i, vs⟩ s [y, z]).op.toList = _ from h) (by decide) (by decide)]
        exact val_6 A n c A' m c' r v0 v1 v2 v3 v4 v5 v6 v7 k i vs s B q y z (evalF cols row d) P N w hD hS hrec
      · obtain rfl := bytes_of h
        rw [evalF_op (show (Ex.mk _ ⟨k, i, vs⟩ s [y, z]).op.toList = _ from h) (by decide) (by decide)]
        exact val_7 A n c A' m c' r v0 v1 v2 v3 v4 v5 v6 v7 k i vs s B q y z (evalF cols row d) P N w hD hS hrec

set_option maxRecDepth 100000 in
set_option maxHeartbeats 4000000 in
theorem eval_no (A : Option Addr) (n c : Nat) (A' : Option Addr) (m c' : Nat) (P : Nat → Prop) (N : Nat) (t : Ex) (u : Value) (w : World) (ht : Tr w P N t u) (hf : mayT t = false) :
    Calls Tryz.prog 33 #[EVt t u, .slice A n c, .slice A' m c'] w fun e w' => e = .returned (.agg #[.int .i64 nulV.k, .int .i64 nulV.i, .string nulV.s]) ∧ Below w.heap.size w w' := by
  have HT := Lib.hid ht
  have HF := Lib.hid hf
  have HM := Lib.hid (fun W h => emay_any P N t u W h)
  obtain ⟨B, q, rfl, hn⟩ := ht.form
  obtain ⟨p, HN⟩ : ∃ p, Hid (t.l.length = p) := ⟨_, Lib.hid rfl⟩
  clear ht hf
  unfold EVt at HM ⊢
  rw [HN.out] at hn HM HT ⊢
  go_enter Tryz.func33, Tryz.ntmps33
  go_wp2_with (go_at_call 65; refine (HM.out _ ((HT.out.below ((Below.refl _ _).alloc (Nat.le_refl _) _)).below ((Below.refl _ _).alloc (Nat.le_refl _) _))).mono ?_; rintro e w1 ⟨rfl, hb1⟩; rw [HF.out]; have hc1 := (bcell hb1).1; have hf1 := (bcell hb1).2; have hy1 := hb1.size; (try simp at hy1); have hz1_0 : w.heap.size < w1.heap.size := (by omega); have hz1_1 : w.heap.size + 1 < w1.heap.size := (by omega))
  refine bodyPost_ret (v := .agg #[.int .i64 0, .int .i64 0, .string ⟨#[]⟩]) (by simp [results, Tryz.results33, go_sem, *]; done) rfl ⟨rfl, ?_⟩
  repeat (first | (with_reducible exact Below.refl _ _) | ((with_reducible refine cSet3 ?_ ?_ _ _ _); (· ((try simp) <;> omega))) | (with_reducible refine Below.drew ?_) | ((with_reducible refine cAlloc ?_ ?_ _); (· ((try simp) <;> omega))) | ((with_reducible refine cOn (by assumption) ?_ ?_); (· ((try simp) <;> omega))))

set_option maxRecDepth 100000 in
set_option maxHeartbeats 4000000 in
theorem eval_yes (A : Option Addr) (n c : Nat) (cols : List Cl) (A' : Option Addr) (m c' : Nat) (row : List Vl) (hm : m ≤ maxLen) (P : Nat → Prop) (N : Nat) (t : Ex) (u : Value) (w : World) (ht : Tr w P N t u) (hf : mayT t = true) (hc : ColS w A n cols) (hv : Vals w w.heap.size A' m row) :
    Calls Tryz.prog 33 #[EVt t u, .slice A n c, .slice A' m c'] w fun e w' => e = .returned (.agg #[.int .i64 (evalF cols row 12 t).k, .int .i64 (evalF cols row 12 t).i, .string (evalF cols row 12 t).s]) ∧ Below w.heap.size w w' := by
  have HT := Lib.hid ht
  have HF := Lib.hid hf
  have HC := Lib.hid (And.intro hc hv)
  have HM := Lib.hid (fun W h => emay_any P N t u W h)
  have HV := Lib.hid (fun r v0 v1 v2 v3 v4 v5 v6 v7 W h1 h2 h3 h4 => value_any A n c cols A' m c' row r v0 v1 v2 v3 v4 v5 v6 v7 hm P 12 t u N W (wf_may hf) h1 h2 h3 h4)
  obtain ⟨B, q, rfl, hn⟩ := ht.form
  obtain ⟨p, HN⟩ : ∃ p, Hid (t.l.length = p) := ⟨_, Lib.hid rfl⟩
  clear ht hf hc hv
  unfold EVt at HM HV ⊢
  rw [HN.out] at hn HM HT HV ⊢
  generalize evalF cols row 12 t = R at HV ⊢
  go_enter Tryz.func33, Tryz.ntmps33
  go_wp2_with (first
    | (go_at_call 65; refine (HM.out _ ((HT.out.below ((Below.refl _ _).alloc (Nat.le_refl _) _)).below ((Below.refl _ _).alloc (Nat.le_refl _) _))).mono ?_; rintro e w1 ⟨rfl, hb1⟩; rw [HF.out]; have HB1 : Hid (Below w.heap.size w w1) := (((Below.refl w.heap.size w).alloc (Nat.le_refl _) _).alloc (by simp) _).trans (hb1.mono (by simp; omega)); have hc1 := (bcell hb1).1; have hf1 := (bcell hb1).2; have hy1 := hb1.size; (try simp at hy1); have hz1_0 : w.heap.size < w1.heap.size := (by omega); have hz1_1 : w.heap.size + 1 < w1.heap.size := (by omega))
    | (go_at_call 67; refine (doings_any _).mono ?_; rintro e w2 ⟨r, v0, v1, v2, v3, v4, v5, v6, v7, rfl, hD, hb2⟩; have HD := Lib.hid hD; have HB2 : Hid (Below w.heap.size w w2) := HB1.out.trans (hb2.mono (by omega)); clear hD; have hc2 := (bcell hb2).1; have hf2 := (bcell hb2).2; have hy2 := hb2.size; (try simp at hy2); have hz2_0 : w.heap.size < w2.heap.size := (by omega); have hz2_1 : w.heap.size + 1 < w2.heap.size := (by omega))
    | (go_at_call 68; refine (HV.out r v0 v1 v2 v3 v4 v5 v6 v7 _ ((HT.out.below HB2.out).below ((Below.refl _ _).alloc (Nat.le_refl _) _)) (HD.out.below ((Below.refl _ _).alloc (Nat.le_refl _) _)) ((HC.out.1.below HB2.out).below ((Below.refl _ _).alloc (Nat.le_refl _) _)) ((HC.out.2.keep (HB2.out.alloc HB2.out.size _)).more (by have := HB2.out.size; simp; omega))).mono ?_; rintro e w3 ⟨rfl, hb3⟩; have hc3 := (bcell hb3).1; have hf3 := (bcell hb3).2; have hy3 := hb3.size; (try simp at hy3); have hz3_0 : w.heap.size < w3.heap.size := (by omega); have hz3_1 : w.heap.size + 1 < w3.heap.size := (by omega)))
  refine bodyPost_ret (v := .agg #[.int .i64 R.k, .int .i64 R.i, .string R.s]) (by simp [results, Tryz.results33, go_sem, *]; done) rfl ⟨rfl, ?_⟩
  exact cSet3 (by omega) ((HB2.out.alloc HB2.out.size _).trans (hb3.mono (by have := HB2.out.size; simp; omega))) _ _ _
end Go.Proofs.YtmhkmliebhbkdaaGreat

/- The type of the chapter's example: a + TRUE is none. -/
namespace Go.Proofs.YtmhkmliebhbkdaaGreat
open Go.RowKit Go.Lib

theorem infoInt : (Tryz.prog.info? 3).map (fun i => (i.zero, i.size, i.bytes)) = some (some (.int .i64 0), 1, 8) := by kernel_rfl
set_option maxRecDepth 100000 in
set_option maxHeartbeats 1600000 in
theorem typ_lit (k i : Int) (vs s : ByteArray) (B : Option Addr) (q d : Nat) (A : Option Addr) (n c : Nat) (w : World) :
    Calls Tryz.prog 66 #[.agg #[.string ⟨#[108, 105, 116]⟩, .int .i64 k, .int .i64 i, .string vs, .string s, .slice B q d], .slice A n c] w fun e w' => e = .returned (.tuple #[.int .i64 k, .int .i64 0]) ∧ Below w.heap.size w w' := by
  go_enter Tryz.func66, Tryz.ntmps66
  go_wp2_with (fail)
  go_ret2
  exact ⟨rfl, (Below.refl _ _).alloc (Nat.le_refl _) _⟩

structure Boxt (w : World) (op : ByteArray) (W : World) : Prop where
  below : Below w.heap.size w W
  e0 : W.cell? ⟨w.heap.size, 0, none⟩ = some (.string op)
theorem Boxt.lt {w W : World} {op : ByteArray} (h : Boxt w op W) : w.heap.size < W.heap.size := World.block_lt_of_cell? _ _ h.e0
theorem Boxt.later {w W W' : World} {op : ByteArray} (h : Boxt w op W) (hb : Below W.heap.size W W') : Boxt w op W' :=
  ⟨h.below.trans (hb.mono h.below.size), (hb.cell (p := ⟨_, _, none⟩) h.lt).trans h.e0⟩

end Go.Proofs.YtmhkmliebhbkdaaGreat

/- What types go with one another; what an operation makes of its parts' types. -/
namespace Go.Proofs.YtmhkmliebhbkdaaGreat
open Go.RowKit Go.Lib

/-- Do two types go with one another? -/
def alikeI (t u : Int) : Bool := decide (t = u) || (decide (t = 0) || decide (u = 0))
set_option maxRecDepth 100000 in
set_option maxHeartbeats 4000000 in
theorem alike_all (t u : Int) (w : World) : Calls Tryz.prog 142 #[.int .i64 t, .int .i64 u] w fun e w' => e = .returned (.bool (alikeI t u)) ∧ Below w.heap.size w w' := by
  unfold alikeI
  by_cases h1 : t = u
  · have q1 : (t == u) = true := by simp [h1]
    rw [decide_eq_true h1, Bool.true_or]
    clear h1
    go_enter Tryz.func142, Tryz.ntmps142
    go_wp2_with (fail)
    go_ret
    exact ⟨rfl, Below.refl _ _⟩
  · have q1 : (t == u) = false := by simp [h1]
    rw [decide_eq_false h1, Bool.false_or]
    clear h1
    by_cases h2 : t = 0
    · have q2 : (t == 0) = true := by simp [h2]
      rw [decide_eq_true h2, Bool.true_or]
      clear h2
      go_enter Tryz.func142, Tryz.ntmps142
      go_wp2_with (fail)
      go_ret
      exact ⟨rfl, Below.refl _ _⟩
    · have q2 : (t == 0) = false := by simp [h2]
      rw [decide_eq_false h2, Bool.false_or]
      clear h2
      have q3 : (u == 0) = decide (u = 0) := by by_cases h : u = 0 <;> simp [h]
      generalize decide (u = 0) = z at q3 ⊢
      go_enter Tryz.func142, Tryz.ntmps142
      go_wp2_with (fail)
      go_ret
      exact ⟨rfl, Below.refl _ _⟩
set_option maxRecDepth 100000 in
set_option maxHeartbeats 4000000 in
theorem all1_all (t u : Int) (b : Nat) (w : World) (hb : w.cell? ⟨b, 0, none⟩ = some (.int .i64 u)) : Calls Tryz.prog 160 #[.int .i64 t, .pointer (some ⟨b, 0, none⟩)] w fun e w' => e = .returned (.bool (!alikeI t u)) ∧ Below w.heap.size w w' := by
  have H := Lib.hid (fun W => alike_all t u W)
  generalize alikeI t u = z at H ⊢
  go_enter Tryz.func160, Tryz.ntmps160
  go_wp2_with (go_at_call 142; refine (H.out _).mono ?_; rintro e w1 ⟨rfl, hb1⟩)
  go_ret
  exact ⟨rfl, hb1⟩
def idxI (u : Int) : List Int → Int → Int
  | [], _ => -1
  | t :: r, k => if alikeI t u = true then idxI u r (k + 1) else k
theorem idxI_all (u : Int) : ∀ (l : List Int) (k : Int), 0 ≤ k → decide (0 ≤ idxI u l k) = !l.all fun t => alikeI t u
  | [], k, _ => by simp [idxI]
  | t :: r, k, hk => by
    rw [idxI]
    cases h : alikeI t u with
    | true => simp [h, idxI_all u r (k + 1) (by omega)]
    | false => simp [h, hk]
set_option maxRecDepth 100000 in
set_option maxHeartbeats 4000000 in
theorem indexI_all (A : Option Addr) (n cap : Nat) (l : List Int) (u : Int) (b : Nat) (w : World) (hn : n ≤ 100000) (hl : l.length = n) (hv : ∀ j (h : j < l.length), ∃ a, A = some a ∧ w.cell? (a.add (j * 1)) = some (.int .i64 l[j])) (hb : w.cell? ⟨b, 0, none⟩ = some (.int .i64 u)) :
    Calls Tryz.prog 132 #[.slice A n cap, .func (.func 160) #[] #[.pointer (some ⟨b, 0, none⟩)]] w fun e w' => e = .returned (.int .i64 (idxI u l 0)) ∧ Below w.heap.size w w' := by
  have hbl := World.block_lt_of_cell? w _ hb
  have HV := Lib.hid (And.intro hv (And.intro hb hl))
  clear hv hb hl
  go_enter Tryz.func132, Tryz.ntmps132
  go_wp2
  go_loopw [8] (fun i wr => ∃ k : Nat, k ≤ n ∧ i = .int .i64 k ∧ Below w.heap.size w wr ∧ Hid (idxI u l 0 = idxI u (l.drop k) k)) (fun i _ => n - (intOf i).toNat)
  case atStart => exact ⟨0, by omega, rfl, Below.refl _ _, Lib.hid (by simp)⟩
  case round =>
    obtain ⟨k, hk, rfl, hbw, HI⟩ := hrel
    have hbs := hbw.size
    have hcb : Hid (wr.cell? ⟨b, 0, none⟩ = some (.int .i64 u)) := (hbw.cell (p := ⟨b, 0, none⟩) hbl).trans HV.out.2.1
    by_cases hlt : k < n
    · have hkl : k < l.length := by rw [HV.out.2.2]; exact hlt
      obtain ⟨a, rfl, hc⟩ := HV.out.1 k hkl
      have hca : wr.cell? (a.add (k * 1)) = some (.int .i64 l[k]) := (hbw.cell (World.block_lt_of_cell? w _ hc)).trans hc
      have HD : Hid (l.drop k = l[k] :: l.drop (k + 1)) := List.drop_eq_getElem_cons hkl
      clear hc
      generalize l[k] = t at hca HD
      have H := Lib.hid (fun W => all1_all t u b W)
      have HI2 : Hid (idxI u l 0 = if alikeI t u = true then idxI u (l.drop (k + 1)) ((k : Int) + 1) else k) := Lib.hid (by rw [HI.out, HD.out]; rfl)
      have HB := Lib.hid hbw
      clear hbw HI
      generalize alikeI t u = z at H HI2
      simp only [Nat.mul_one] at hca
      cases z with
      | true =>
        go_wp2_with (go_at_call 160; refine (H.out _ hcb.out).mono ?_; rintro e w1 ⟨rfl, hb1⟩; have HB1 := Lib.hid (HB.out.trans (hb1.mono hbs)); clear hb1)
        go_roundw
        case rel => exact ⟨k + 1, by omega, by go_num, HB1.out, Lib.hid (by rw [HI2.out]; simp)⟩
        case measure => simp [intOf]; omega
      | false =>
        go_wp2_with (go_at_call 160; refine (H.out _ hcb.out).mono ?_; rintro e w1 ⟨rfl, hb1⟩; have HB1 := Lib.hid (HB.out.trans (hb1.mono hbs)); clear hb1)
        go_ret
        exact ⟨by rw [HI2.out]; simp, HB1.out⟩
    · have HB := Lib.hid hbw
      clear hbw
      go_wp2
      go_ret
      exact ⟨by rw [HI.out, List.drop_of_length_le (by have := HV.out.2.2; omega)]; rfl, HB.out⟩
set_option maxRecDepth 100000 in
set_option maxHeartbeats 4000000 in
theorem containsI_all (A : Option Addr) (n cap : Nat) (l : List Int) (u : Int) (b : Nat) (w : World) (hn : n ≤ 100000) (hl : l.length = n) (hv : ∀ j (h : j < l.length), ∃ a, A = some a ∧ w.cell? (a.add (j * 1)) = some (.int .i64 l[j])) (hb : w.cell? ⟨b, 0, none⟩ = some (.int .i64 u)) :
    Calls Tryz.prog 91 #[.slice A n cap, .func (.func 160) #[] #[.pointer (some ⟨b, 0, none⟩)]] w fun e w' => e = .returned (.bool (!l.all fun t => alikeI t u)) ∧ Below w.heap.size w w' := by
  have H := Lib.hid (indexI_all A n cap l u b w hn hl hv hb)
  have HE := Lib.hid (idxI_all u l 0 (by omega))
  clear hv hb hl
  generalize (!l.all fun t => alikeI t u) = z at HE ⊢
  generalize idxI u l 0 = y at H HE
  go_enter Tryz.func91, Tryz.ntmps91
  go_wp2_with (go_at_call 132; refine H.out.mono ?_; rintro e w1 ⟨rfl, hb1⟩)
  go_ret
  exact ⟨ret_bool HE.out, hb1⟩
set_option maxRecDepth 100000 in
set_option maxHeartbeats 4000000 in
theorem all_all (A : Option Addr) (n cap : Nat) (l : List Int) (u : Int) (w : World) (hn : n ≤ 100000) (hl : l.length = n) (hv : ∀ j (h : j < l.length), ∃ a, A = some a ∧ w.cell? (a.add (j * 1)) = some (.int .i64 l[j])) :
    Calls Tryz.prog 141 #[.slice A n cap, .int .i64 u] w fun e w' => e = .returned (.bool (l.all fun t => alikeI t u)) ∧ Below w.heap.size w w' := by
  have H := Lib.hid (containsI_all A n cap l u w.heap.size (w.alloc (.cells #[.int .i64 u] 3)) hn hl (fun j hj => by
    obtain ⟨a, ea, hc⟩ := hv j hj
    exact ⟨a, ea, (((Below.refl w.heap.size w).alloc (Nat.le_refl _) _).cell (World.block_lt_of_cell? w _ hc)).trans hc⟩) (by simp [go_sem]))
  clear hv hl
  generalize (l.all fun t => alikeI t u) = z at H ⊢
  go_enter Tryz.func141, Tryz.ntmps141
  go_wp2_with (go_at_call 91; refine H.out.mono ?_; rintro e w1 ⟨rfl, hb1⟩)
  go_ret
  exact ⟨rfl, ((Below.refl _ _).alloc (Nat.le_refl _) _).trans (hb1.mono (by simp))⟩
end Go.Proofs.YtmhkmliebhbkdaaGreat
