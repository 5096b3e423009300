import Derived.Test.YtlilnbcklplmfaaGreatDoorW04
import Derived.Shelf.Strings.SlTrimAscii
import Derived.Laws.AppendOwn
import Derived.Laws.OwnMore
import Derived.Deep.DeepCutAuto

/- Rows of tokens in memory; Cut. -/
namespace Go.Proofs.YtlilnbcklplmfaaGreatDoor
open Go.RowKit Go.Lib

theorem ascii_two : ∀ (j : Nat) (b : UInt8), (⟨#[32, 10]⟩ : ByteArray).data.toList[j]? = some b → b.toNat < 128 := by
  intro j b h
  match j with
  | 0 => simp at h; subst h; decide
  | 1 => simp at h; subst h; decide
  | j + 2 => simp at h
theorem blanks_any (s : ByteArray) (w : World) :
    Calls Tryz.prog 78 #[.string s, .string ⟨#[32, 10]⟩] w fun e w' => e = .returned (.string ⟨(skip s.data.toList).toArray⟩) ∧ Below w.heap.size w w' :=
  Any.strings_TrimLeft_laid Tryz.lays161 (by kernel_rfl) s ⟨#[32, 10]⟩ w (by decide) ascii_two
set_option maxRecDepth 100000 in
theorem behind_any (s : ByteArray) (w : World) :
    Calls Tryz.prog 38 #[.string s] w fun e w' => e = .returned (.string ⟨(skip s.data.toList).toArray⟩) ∧ Below w.heap.size w w' := by
  go_enter Tryz.func38, Tryz.ntmps38
  go_wp2_with (go_at_call 78; refine (blanks_any s _).mono ?_; rintro e w1 ⟨rfl, hb1⟩)
  go_ret
  exact ⟨rfl, hb1⟩
theorem clone_any (s : ByteArray) (w : World) (hs : s.size ≤ 100000) :
    Calls Tryz.prog 40 #[.string s] w fun e w' => e = .returned (.string s) ∧ Below w.heap.size w w' := by
  go_enter Tryz.func40, Tryz.ntmps40
  go_wp2_with (go_at_call 83; refine (Tryz.stringslite_Clone s _ (by omega)).mono ?_; rintro e w1 ⟨rfl, hb1⟩)
  go_ret
  exact ⟨rfl, hb1⟩

def Tk.cells (x : Tk) : List Value := [.int .i64 x.k, .string ⟨x.s.toArray⟩]
def tcells (l : List Tk) : List Value := l.flatMap Tk.cells
theorem tcells_snoc (l : List Tk) (x : Tk) : tcells (l ++ [x]) = tcells l ++ x.cells := by simp [tcells]
theorem infoTok : (Tryz.prog.info? 89).map (fun i => (i.zero, i.size, i.bytes)) = some (some (.agg #[.int .i64 0, .string ⟨#[]⟩]), 2, 24) := by kernel_rfl
/-- A row of tokens of the call's own. -/
def OwnT (W : World) (B : Nat) (v : Value) (l : List Tk) : Prop := W.ownsRow B 89 2 v l.length (tcells l)
theorem OwnT.below {W W' : World} {B C : Nat} {v : Value} {l : List Tk} (h : OwnT W B v l) (hb : Below C W W') (hC : W.heap.size ≤ C) : OwnT W' B v l :=
  World.ownsRow.kept (row := none) h ⟨hb.os, hb.tape, hb.output, hb.size, fun q hq _ => hb.block q (by omega)⟩ (by cases h : Value.ownBlock v with | none => exact .inl rfl | some _ => exact .inr (by simp))
theorem OwnT.alloc {W : World} {B : Nat} {v : Value} {l : List Tk} (h : OwnT W B v l) (o : Obj) : OwnT (W.alloc o) B v l := World.ownsRow.alloc h o
theorem OwnT.set {W : World} {B b o : Nat} {v u : Value} {l : List Tk} (h : OwnT W B v l) (hb : ∀ g, v.ownBlock = some g → g < b) : OwnT (W.setCell ⟨b, o, none⟩ u) B v l :=
  World.ownsRow.kept (row := some b) h ⟨rfl, rfl, rfl, by simp [World.setCell], fun q _ hq => Below.heap_setCell _ _ _ _ (fun e => hq (by simp [e]))⟩ (by
    cases hv : v.ownBlock with
    | none => exact .inl rfl
    | some g => refine .inr fun e => ?_; injection e with e; have := hb g hv; omega)
theorem OwnT.mono {W : World} {B B' : Nat} {v : Value} {l : List Tk} (h : OwnT W B v l) (hB : B' ≤ B) : OwnT W B' v l := by
  refine ⟨h.1, ?_⟩
  rcases h.2 with h' | ⟨g, cap, cur, e, hb, r⟩
  · exact .inl h'
  · exact .inr ⟨g, cap, cur, e, Nat.le_trans hB hb, r⟩
theorem OwnT.form {W : World} {B : Nat} {v : Value} {l : List Tk} (h : OwnT W B v l) : ∃ A cap, v = .slice A l.length cap := by
  rcases h.2 with ⟨rfl, h0⟩ | ⟨g, cap, cur, rfl, _⟩
  · exact ⟨none, 0, by rw [h0]⟩
  · exact ⟨_, _, rfl⟩
theorem skip_skip (l : List UInt8) : skip (skip l) = skip l := by
  unfold skip
  induction l with
  | nil => rfl
  | cons c l ih =>
    rw [List.dropWhile_cons]
    split
    · exact ih
    · rename_i h
      rw [List.dropWhile_cons, if_neg h]
theorem cut_skip (l : List UInt8) : cut (skip l) = cut l := by
  cases h : fst (skip l) with
  | none =>
    by_cases hn : skip l = []
    · rw [cut_end hn, cut_end (by rw [skip_skip]; exact hn)]
    · rw [cut_none h hn, cut_none (by rw [skip_skip]; exact h) (by rw [skip_skip]; exact hn)]
  | some y =>
    obtain ⟨t, n⟩ := y
    rw [cut_more h, cut_more (l := skip l) (by rw [skip_skip]; exact h), skip_skip]
/-- A text's tokens, if there are no more than may be. -/
def cutR (l : List UInt8) : Option (List Tk) := match cut l with
  | none => none
  | some ts => if ts.length ≤ 400 then some ts else none
theorem cutR_none {l : List UInt8} (h : cut l = none) : cutR l = none := by unfold cutR; rw [h]
theorem cutR_some {l : List UInt8} {ts : List Tk} (h : cut l = some ts) (hl : ts.length ≤ 400) : cutR l = some ts := by unfold cutR; rw [h]; simp [hl]
theorem cutR_many {l : List UInt8} {m : List Tk} {o : Option (List Tk)} {d : List Tk} (h : cut l = (o.map (m ++ ·)).map (d ++ ·)) (hl : 400 < d.length + m.length) : cutR l = none := by
  unfold cutR
  rw [h]
  cases o with
  | none => rfl
  | some x =>
    show (if (d ++ (m ++ x)).length ≤ 400 then _ else _) = _
    rw [if_neg (by simp; omega)]
def CutR (l : List UInt8) (B : Nat) (e : Ending) (W : World) : Prop :=
  (∃ v ts, cutR l = some ts ∧ e = .returned (.tuple #[v, .int .i64 0]) ∧ OwnT W B v ts) ∨ (cutR l = none ∧ e = .returned (.tuple #[.slice none 0 0, .int .i64 2]))
theorem map_map_one {o : Option (List Tk)} {d : List Tk} {t : Tk} : (o.map (t :: ·)).map (d ++ ·) = o.map ((d ++ [t]) ++ ·) := by cases o <;> simp

set_option maxRecDepth 100000 in
set_option maxHeartbeats 3200000 in
theorem cut_any (s : ByteArray) (w : World) (hs : s.size ≤ 100000) (hl : LibE w) :
    Calls Tryz.prog 17 #[.string s] w fun e w' => CutR s.data.toList w.heap.size e w' ∧ Below w.heap.size w w' := by
  obtain ⟨i0, hi, hz0, hz1, hz2⟩ := info_parts infoTok
  have HL := Lib.hid hl
  clear hl
  obtain ⟨S0, hS0⟩ : ∃ S : ByteArray, S = ⟨(skip s.data.toList).toArray⟩ := ⟨_, rfl⟩
  have HB0 := Lib.hid (fun (W : World) => hS0 ▸ behind_any s W)
  have hs0 : S0.size ≤ 100000 := by
    have h1 := skip_len s.data.toList
    rw [← Lib.size_eq] at h1
    rw [hS0]
    simp [ByteArray.size]
    omega
  have HS0 : Hid (skip S0.data.toList = S0.data.toList ∧ cut s.data.toList = (cut S0.data.toList).map (([] : List Tk) ++ ·)) := by
    rw [hS0]
    refine ⟨skip_skip _, ?_⟩
    show _ = Option.map _ (cut (skip s.data.toList))
    rw [cut_skip]
    cases cut s.data.toList <;> rfl
  clear hS0
  go_enter Tryz.func17, Tryz.ntmps17
  go_wp2_with (go_at_call 38; refine (HB0.out _).mono ?_; rintro e w1 ⟨rfl, hb1⟩; have HB1 := Lib.hid hb1; clear hb1)
  go_loopw [0, 4, 5, 6] (fun sv v _ _ wr => ∃ (S : ByteArray) (d : List Tk), sv = .string S ∧ S.size ≤ 100000 ∧ d.length ≤ 400 ∧ OwnT wr w.heap.size v d ∧ Below w.heap.size w wr ∧ Hid (skip S.data.toList = S.data.toList ∧ cut s.data.toList = (cut S.data.toList).map (d ++ ·))) (fun sv _ _ _ _ => match sv with | .string S => S.size | _ => 0)
  case atStart => exact ⟨S0, [], rfl, hs0, by simp, World.ownsRow_nil _ _ _ _, HB1.out, HS0.out⟩
  case round =>
    obtain ⟨S, d, rfl, hS, hd, hown, hb, HC⟩ := hrel
    have HO := Lib.hid hown
    obtain ⟨A, cap, rfl⟩ := hown.form
    clear hown
    have hbs := hb.size
    by_cases h0 : 0 < S.size
    · have hne := nonempty_of' h0
      have hne2 : ¬ S.toList = [] := fun h => by rw [h] at hne; cases hne
      have hne3 : S.data.toList ≠ [] := fun h => hne2 (by rw [toList_data]; exact h)
      cases hf : fst S.data.toList with
      | none =>
        have HR := Lib.hid (show cutR s.data.toList = none from cutR_none (by rw [HC.out.2, cut_none (by rw [HC.out.1]; exact hf) (by rw [HC.out.1]; exact hne3)]; rfl))
        have HF := Lib.hid (fun (W : World) (h : LibE W) => (show Calls Tryz.prog 39 #[.string S] W fun e w' => e = .returned (.tuple #[.agg #[.int .i64 0, .string ⟨#[]⟩], .int .i64 0]) ∧ Below W.heap.size W w' from by
          have := first_any S W h0 hS h
          rwa [hf] at this))
        clear hf hne3
        go_wp2_with (go_at_call 39; refine (HF.out _ (HL.out.keep hb (Nat.le_refl _))).mono ?_; rintro e w2 ⟨rfl, hb2⟩)
        go_ret2
        exact ⟨.inr ⟨HR.out, rfl⟩, (hb.trans (hb2.mono hbs)).alloc (by have := hb2.size; omega) _⟩
      | some y =>
        obtain ⟨t, n⟩ := y
        obtain ⟨hn1, hn2⟩ := fst_pos hf
        rw [← Lib.size_eq] at hn2
        have HM := Lib.hid (show cut s.data.toList = ((cut (S.data.toList.drop n)).map (t :: ·)).map (d ++ ·) by
          rw [HC.out.2, cut_more (l := S.data.toList) (by rw [HC.out.1]; exact hf), HC.out.1])
        have hts : (⟨t.s.toArray⟩ : ByteArray).size ≤ 100000 := fst_size hf (by rw [← Lib.size_eq]; exact hS)
        obtain ⟨ts, hts'⟩ : ∃ ts : ByteArray, ts = ⟨t.s.toArray⟩ := ⟨_, rfl⟩
        rw [← hts'] at hts
        have HF := Lib.hid (fun (W : World) (h : LibE W) => (show Calls Tryz.prog 39 #[.string S] W fun e w' => e = .returned (.tuple #[.agg #[.int .i64 t.k, .string ts], .int .i64 n]) ∧ Below W.heap.size W w' from by
          have := first_any S W h0 hS h
          rw [hf] at this
          rw [hts']
          exact this))
        have HTS := Lib.hid hts'
        have hnz : ((n : Int) == 0) = false := beq_eq_false_iff_ne.2 (by omega)
        have hnz2 : ¬ (n : Int) = 0 := by omega
        have hnle : 0 ≤ (n : Int) ∧ (n : Int) ≤ (S.size : Int) := by omega
        clear hf hne3 hts'
        by_cases h400 : d.length = 400
        · have HR := Lib.hid (show cutR s.data.toList = none from by
            have h := HM.out
            exact cutR_many (m := [t]) (o := cut (S.data.toList.drop n)) (d := d) h (by simp; omega))
          have h4 : (d.length : Int) = 400 := by omega
          go_wp2_with (go_at_call 39; refine (HF.out _ (HL.out.keep hb (Nat.le_refl _))).mono ?_; rintro e w2 ⟨rfl, hb2⟩)
          go_ret2
          exact ⟨.inr ⟨HR.out, rfl⟩, (hb.trans (hb2.mono hbs)).alloc (by have := hb2.size; omega) _⟩
        · have h4 : ¬ (d.length : Int) = 400 := by omega
          obtain ⟨S2, hS2⟩ : ∃ S2 : ByteArray, S2 = ⟨(skip (S.data.toList.drop n)).toArray⟩ := ⟨_, rfl⟩
          have HBB := Lib.hid (fun (W : World) => (show Calls Tryz.prog 38 #[.string (S.extract n S.size)] W fun e w' => e = .returned (.string S2) ∧ Below W.heap.size W w' from by
            have := behind_any (S.extract n S.size) W
            rw [rest_list] at this
            rw [hS2]; exact this))
          have hs2 : S2.size < S.size := by
            have h1 := skip_len (S.data.toList.drop n)
            rw [List.length_drop, ← Lib.size_eq] at h1
            rw [hS2]
            simp only [ByteArray.size, List.size_toArray] at h1 ⊢
            have : S.data.size = S.size := rfl
            omega
          have HN : Hid (skip S2.data.toList = S2.data.toList ∧ cut s.data.toList = (cut S2.data.toList).map ((d ++ [t]) ++ ·)) := by
            rw [hS2]
            refine ⟨skip_skip _, ?_⟩
            show _ = Option.map _ (cut (skip (S.data.toList.drop n)))
            rw [cut_skip, HM.out, map_map_one]
          clear hS2
          go_wp2_with (first
            | (go_at_call 39; refine (HF.out _ (HL.out.keep hb (Nat.le_refl _))).mono ?_; rintro e w2 ⟨rfl, hb2⟩; have HO2 := Lib.hid (HO.out.below hb2 (Nat.le_refl _)); have HB2 := Lib.hid (hb.trans (hb2.mono hbs)); have hs21 := hb2.size; clear hb2)
            | (go_at_call 40; refine (clone_any _ _ hts).mono ?_; rintro e w3 ⟨rfl, hb3⟩; have t0 : w3.cell? ⟨w2.heap.size, 0, none⟩ = some (.int .i64 t.k) := (hb3.cell (p := ⟨w2.heap.size, 0, none⟩) (by simp)).trans (by simp [go_sem]); have t1 : w3.cell? ⟨w2.heap.size, 1, none⟩ = some (.string ts) := (hb3.cell (p := ⟨w2.heap.size, 1, none⟩) (by simp)).trans (by simp [go_sem]); have tf : ∀ o, w3.frozen? ⟨w2.heap.size, o, none⟩ = false := (fun o => (hb3.frozen (p := ⟨w2.heap.size, o, none⟩) (by simp)).trans (by simp [go_sem])); have HO3 := Lib.hid (((HO2.out.alloc _).below hb3 (Nat.le_refl _)).set (b := w2.heap.size) (o := 1) (u := .string ts) (fun g hg => (HO2.out.lt g hg).2)); have hs32 := hb3.size; (try simp at hs32); have HB3 := Lib.hid (cSet1 (show w.heap.size ≤ w2.heap.size by omega) ((HB2.out.alloc (by omega) (.cells #[.int .i64 t.k, .string ts] 89)).trans (hb3.mono (by simp; omega))) 1 (.string ts)); clear hb3)
            | (go_at_call 38; refine (HBB.out _).mono ?_; rintro e w5 ⟨rfl, hb5⟩)
            | (at_builtin; refine wpList_append_own _ rfl _ _ 55 rfl w.heap.size 89 i0 _ 2 24 Tryz.underlying55 hi hz0 hz1 hz2 rfl (by decide) _ _ _ rfl (World.ownsRow.alloc HO3.out _) ⟨w3.heap.size, 0, none⟩ 1 1 [.int .i64 t.k, .string ts] rfl rfl ?c1 ?c2 ?c3 ?c4 ?c5 ?_))
          case c1 =>
            intro j u h
            match j with
            | 0 => simp at h; subst h; simp [Addr.add, go_sem]
            | 1 => simp at h; subst h; simp [Addr.add, go_sem]
            | j + 2 => simp at h
          case c2 => intro u hu; simp at hu; rcases hu with rfl | rfl <;> rfl
          case c3 => unfold maxLen; omega
          case c4 => omega
          case c5 => simp; omega
          intro v' w4 hown' hgrow _
          have HO4 : Hid (OwnT w4 w.heap.size v' (d ++ [t])) := by
            show w4.ownsRow _ _ 2 v' (d ++ [t]).length _
            rw [tcells_snoc, List.length_append]
            have e : t.cells = [.int .i64 t.k, .string ts] := by rw [HTS.out]; rfl
            rw [e]
            exact hown'
          have hz := hgrow.size
          have HB4 : Hid (Below w.heap.size w w4) := (HB3.out.alloc (by simp; omega) _).grown hgrow (by simp; omega) fun g hg => (HO3.out.lt g hg).1
          clear hown' hgrow t0 t1 tf
          simp at hz
          go_wp2_with (go_at_call 38; refine (HBB.out _).mono ?_; rintro e w5 ⟨rfl, hb5⟩)
          go_roundw
          case rel => exact ⟨S2, d ++ [t], rfl, by omega, by simp; omega, HO4.out.below hb5 (Nat.le_refl _), HB4.out.trans (hb5.mono HB4.out.size), HN.out⟩
          case measure => exact hs2
    · have hemp : S.data.toList = [] := List.length_eq_zero_iff.1 (by rw [← Lib.size_eq]; omega)
      have hne : S.toList = [] := by rw [toList_data]; exact hemp
      have hne2 : S.toList.isEmpty = true := by rw [hne]; rfl
      have HR := Lib.hid (show cutR s.data.toList = some d from cutR_some (by
        rw [HC.out.2, hemp, cut_end rfl]
        simp) hd)
      clear hemp
      go_wp2
      go_ret2
      exact ⟨.inl ⟨_, _, HR.out, rfl, HO.out⟩, hb⟩
end Go.Proofs.YtlilnbcklplmfaaGreatDoor

/- Rows of tokens: Same; the law's few; the chapter's examples (awake). -/
namespace Go.Proofs.YtlilnbcklplmfaaGreatDoor
open Go.RowKit Go.Lib

theorem add_blk (a : Addr) (n : Nat) : (a.add n).block = a.block := by unfold Addr.add; split <;> rfl
/-- Token x lies at this address. -/
structure TkAt (W : World) (a : Addr) (x : Tk) : Prop where
  k : W.cell? a = some (.int .i64 x.k)
  s : W.cell? ⟨a.block, a.off + 1, none⟩ = some (.string ⟨x.s.toArray⟩)
theorem TkAt.keep {W W' : World} {a : Addr} {x : Tk} {B : Nat} (h : TkAt W a x) (hb : Below B W W') (hB : a.block < B) : TkAt W' a x :=
  ⟨(hb.cell hB).trans h.k, (hb.cell (p := ⟨a.block, _, none⟩) hB).trans h.s⟩
/-- The slice of n elements at A reads as these tokens; it lies below block B. -/
def Toks (W : World) (B : Nat) (A : Option Addr) (n : Nat) (l : List Tk) : Prop :=
  l.length = n ∧ ∀ j (h : j < l.length), ∃ a, A = some a ∧ TkAt W (a.add (j * 2)) l[j] ∧ a.block < B
theorem Toks.keep {W W' : World} {B : Nat} {A : Option Addr} {n : Nat} {l : List Tk} (h : Toks W B A n l) (hb : Below B W W') : Toks W' B A n l :=
  ⟨h.1, fun j hj => by
    obtain ⟨a, e, h1, h2⟩ := h.2 j hj
    exact ⟨a, e, h1.keep hb (by rw [add_blk]; exact h2), h2⟩⟩
theorem Toks.more {W : World} {B B' : Nat} {A : Option Addr} {n : Nat} {l : List Tk} (h : Toks W B A n l) (hB : B ≤ B') : Toks W B' A n l :=
  ⟨h.1, fun j hj => by
    obtain ⟨a, e, h1, h2⟩ := h.2 j hj
    exact ⟨a, e, h1, by omega⟩⟩
theorem Toks.later {W W' : World} {A : Option Addr} {n : Nat} {l : List Tk} (h : Toks W W.heap.size A n l) (hb : Below W.heap.size W W') : Toks W' W'.heap.size A n l := (h.keep hb).more hb.size
theorem Toks.at_ {W : World} {B : Nat} {A : Option Addr} {n : Nat} {l : List Tk} (h : Toks W B A n l) {k : Nat} (hk : k < n) : ∃ a x, A = some a ∧ l[k]? = some x ∧ TkAt W (a.add (k * 2)) x ∧ a.block < B := by
  obtain ⟨h1, h2⟩ := h
  obtain ⟨a, e, h3, h4⟩ := h2 k (by omega)
  exact ⟨a, l[k]'(by omega), e, List.getElem?_eq_getElem _, h3, h4⟩
theorem tcells_at (l : List Tk) : ∀ j (h : j < l.length), (tcells l)[j * 2]? = some (.int .i64 l[j].k) ∧ (tcells l)[j * 2 + 1]? = some (.string ⟨l[j].s.toArray⟩) := by
  induction l with
  | nil => intro j h; simp at h
  | cons x l ih =>
    intro j h
    cases j with
    | zero => simp [tcells, Tk.cells]
    | succ j =>
      have := ih j (by simpa using h)
      have e : tcells (x :: l) = x.cells ++ tcells l := by simp [tcells]
      have hl : x.cells.length = 2 := rfl
      rw [e]
      refine ⟨?_, ?_⟩
      · rw [List.getElem?_append_right (by rw [hl]; omega), hl, show (j + 1) * 2 - 2 = j * 2 by omega]; exact this.1
      · rw [List.getElem?_append_right (by rw [hl]; omega), hl, show (j + 1) * 2 + 1 - 2 = j * 2 + 1 by omega]; exact this.2
theorem OwnT.toks {W : World} {B : Nat} {v : Value} {l : List Tk} (h : OwnT W B v l) : ∃ A cap, v = .slice A l.length cap ∧ Toks W W.heap.size A l.length l := by
  have h' := h
  rcases h.2 with ⟨rfl, h0⟩ | ⟨g, cap, cur, rfl, hB, hg, hc, hm, hs, ht⟩
  · exact ⟨none, 0, by rw [h0], rfl, fun j hj => absurd hj (by omega)⟩
  · refine ⟨_, cap, rfl, rfl, fun j hj => ⟨_, rfl, ?_, (Array.getElem?_eq_some_iff.1 hg).1⟩⟩
    have hadd : (⟨g, 0, none⟩ : Addr).add (j * 2) = ⟨g, j * 2, none⟩ := by unfold Addr.add; split <;> simp_all
    obtain ⟨c0, c1⟩ := tcells_at l j hj
    rw [hadd]
    exact ⟨(World.ownsRow.cellAt h' (j * 2) (by omega)).trans c0, (World.ownsRow.cellAt h' (j * 2 + 1) (by omega)).trans c1⟩
theorem cut_ok (s : ByteArray) (w : World) (hs : s.size ≤ 100000) (hl : LibE w) (ts : List Tk) (h : cutR s.data.toList = some ts) :
    Calls Tryz.prog 17 #[.string s] w fun e w' => ∃ v, e = .returned (.tuple #[v, .int .i64 0]) ∧ Hid (OwnT w' w.heap.size v ts) ∧ Below w.heap.size w w' :=
  (cut_any s w hs hl).mono fun e w' ⟨hc, hb⟩ => by
    rcases hc with ⟨v, ts', h1, h2, h3⟩ | ⟨h1, _⟩
    · rw [h] at h1
      obtain rfl := Option.some.inj h1
      exact ⟨v, h2, h3, hb⟩
    · rw [h] at h1; cases h1
theorem cut_no (s : ByteArray) (w : World) (hs : s.size ≤ 100000) (hl : LibE w) (h : cutR s.data.toList = none) :
    Calls Tryz.prog 17 #[.string s] w fun e w' => e = .returned (.tuple #[.slice none 0 0, .int .i64 2]) ∧ Below w.heap.size w w' :=
  (cut_any s w hs hl).mono fun e w' ⟨hc, hb⟩ => by
    rcases hc with ⟨v, ts', h1, h2, h3⟩ | ⟨_, h2⟩
    · rw [h] at h1; cases h1
    · exact ⟨h2, hb⟩
theorem cut_ok' (s : ByteArray) (w : World) (hs : s.size ≤ 100000) (hl : LibE w) (ts : List Tk) (h : cutR s.data.toList = some ts) (n : Nat) (hn : ts.length = n) :
    Calls Tryz.prog 17 #[.string s] w fun e w' => ∃ A cap, e = .returned (.tuple #[.slice A n cap, .int .i64 0]) ∧ Hid (Toks w' w'.heap.size A n ts) ∧ Below w.heap.size w w' :=
  (cut_ok s w hs hl ts h).mono fun e w' ⟨v, h1, h2, hb⟩ => by
    obtain ⟨A, cap, rfl, ht⟩ := h2.out.toks
    subst hn
    exact ⟨A, cap, h1, ht, hb⟩
end Go.Proofs.YtlilnbcklplmfaaGreatDoor

/- The chapter's examples (awake). -/
namespace Go.Proofs.YtlilnbcklplmfaaGreatDoor
open Go.RowKit Go.Lib

theorem Toks.alloc {W : World} {A : Option Addr} {n : Nat} {l : List Tk} (h : Toks W W.heap.size A n l) (o : Obj) : Toks (W.alloc o) (W.alloc o).heap.size A n l := h.later ((Below.refl _ _).alloc (Nat.le_refl _) o)
end Go.Proofs.YtlilnbcklplmfaaGreatDoor

/- May a token be. -/
namespace Go.Proofs.YtlilnbcklplmfaaGreatDoor
open Go.RowKit Go.Lib

/-- May a token be? -/
def tmayB (k : Int) (s : ByteArray) : Bool :=
  if k = 3 then mayB 2 0 s else if k = 1 then kmay letB parB 16 s.data.toList else if k = 2 then kmay digB digB 19 s.data.toList else if k = 4 then kmay sigB nonB 1 s.data.toList else false
theorem vmay_any (k i : Int) (s : ByteArray) (w : World) :
    Calls Tryz.prog 33 #[.agg #[.int .i64 k, .int .i64 i, .string s]] w fun e w' => e = .returned (.bool (mayB k i s)) ∧ Below w.heap.size w w' := by
  cases h : mayB k i s with
  | true => exact may_t k i s w h
  | false => exact may_f k i s w h
set_option maxRecDepth 100000 in
theorem meant_any (k : Int) (s : ByteArray) (w : World) :
    Calls Tryz.prog 302 #[.agg #[.int .i64 k, .string s]] w fun e w' => e = .returned (.agg #[.int .i64 2, .int .i64 0, .string s]) ∧ Below w.heap.size w w' := by
  go_enter Tryz.func302, Tryz.ntmps302
  go_wp2
  refine bodyPost_ret (v := .agg #[.int .i64 2, .int .i64 0, .string s]) ?_ rfl ⟨rfl, ?_⟩
  · (simp [results, Tryz.results302, go_sem, *]; done)
  repeat (first | (with_reducible exact Below.refl _ _) | ((with_reducible refine cSet1 ?_ ?_ _ _); (· ((try simp) <;> omega))) | (with_reducible refine Below.drew ?_) | ((with_reducible refine cAlloc ?_ ?_ _); (· ((try simp) <;> omega))) | ((with_reducible refine cOn (by assumption) ?_ ?_); (· ((try simp) <;> omega))))

set_option maxRecDepth 100000 in
set_option maxHeartbeats 800000 in
theorem tmay_3 (s : ByteArray) (w : World) :
    Calls Tryz.prog 293 #[.agg #[.int .i64 3, .string s]] w fun e w' => e = .returned (.bool (mayB 2 0 s)) ∧ Below w.heap.size w w' := by
  go_enter Tryz.func293, Tryz.ntmps293
  go_wp2_with (first
    | (go_at_call 302; refine (meant_any _ _ _).mono ?_; rintro e w1 ⟨rfl, hb1⟩; have hc1 := (bcell hb1).1; have hf1 := (bcell hb1).2; have hy1 := hb1.size; (try simp at hy1); have hz1_0 : w.heap.size < w1.heap.size := (by omega))
    | (go_at_call 33; refine (vmay_any _ _ _ _).mono ?_; rintro e w2 ⟨rfl, hb2⟩; have hc2 := (bcell hb2).1; have hf2 := (bcell hb2).2; have hy2 := hb2.size; (try simp at hy2); have hz2_0 : w.heap.size < w2.heap.size := (by omega)))
  go_ret
  refine ⟨rfl, ?_⟩
  repeat (first | (with_reducible exact Below.refl _ _) | ((with_reducible refine cSet3 ?_ ?_ _ _ _); (· ((try simp) <;> omega))) | (with_reducible refine Below.drew ?_) | ((with_reducible refine cAlloc ?_ ?_ _); (· ((try simp) <;> omega))) | ((with_reducible refine cOn (by assumption) ?_ ?_); (· ((try simp) <;> omega))))

/-- The token's box, while the kinds are gone through. -/
structure TB (w : World) (k : Int) (s : ByteArray) (W : World) : Prop where
  below : Below w.heap.size w W
  c0 : W.cell? ⟨w.heap.size, 0, none⟩ = some (.int .i64 k)
  c1 : W.cell? ⟨w.heap.size, 1, none⟩ = some (.string s)
theorem TB.lt {w W : World} {k : Int} {s : ByteArray} (h : TB w k s W) : w.heap.size < W.heap.size := World.block_lt_of_cell? _ _ h.c0
theorem TB.later {w W W' : World} {k : Int} {s : ByteArray} (h : TB w k s W) (hb : Below W.heap.size W W') : TB w k s W' :=
  ⟨h.below.trans (hb.mono h.below.size), (hb.cell (p := ⟨_, _, none⟩) h.lt).trans h.c0, (hb.cell (p := ⟨_, _, none⟩) h.lt).trans h.c1⟩
theorem TB.alloc {w W : World} {k : Int} {s : ByteArray} (h : TB w k s W) (o : Obj) : TB w k s (W.alloc o) := h.later ((Below.refl _ _).alloc (Nat.le_refl _) o)
theorem TB.start (w : World) (k : Int) (s : ByteArray) (t : TypeId) : TB w k s (w.alloc (.cells #[.int .i64 k, .string s] t)) :=
  ⟨(Below.refl _ _).alloc (Nat.le_refl _) _, by simp [go_sem], by simp [go_sem]⟩

set_option maxRecDepth 100000 in
set_option maxHeartbeats 1600000 in
theorem tmay_k0 (s : ByteArray) (w : World) (hs : s.size ≤ 100000) :
    Calls Tryz.prog 293 #[.agg #[.int .i64 1, .string s]] w fun e w' => e = .returned (.bool (kmay letB parB 16 s.data.toList)) ∧ Below w.heap.size w w' := by
  go_enter Tryz.func293, Tryz.ntmps293
  go_wp2_with (go_at_call 80; refine (kinds_any _).mono ?_; rintro e w1 ⟨rfl, hb1⟩; have HW0 := Lib.hid ((TB.start w 1 s _).later hb1); clear hb1)
  go_loopw [12] (fun i wr => ∃ n : Nat, n ≤ 0 ∧ i = .int .i64 n ∧ TB w 1 s wr) (fun i _ => 3 - (intOf i).toNat)
  case atStart => exact ⟨0, by omega, rfl, HW0.out⟩
  case round =>
    obtain ⟨n, hn, rfl, hW⟩ := hrel
    have HW := Lib.hid hW
    clear hW HW0
    obtain ⟨wo, hwo⟩ : ∃ wo : World, wo = wr := ⟨_, rfl⟩
    rw [← hwo] at HW ⊢
    clear hwo
    by_cases hn0 : n = 0
    · subst hn0
      have r0 := HW.out.c0
      have r1 := HW.out.c1
      have rl := HW.out.lt
      have ix := kix0
      have rn : ¬ w.heap.size = wo.heap.size := by omega
      go_wp2_with (go_at_call 82; refine (kmay_any 1 16 _ _ letB parB cls_letter cls_inWord s _ hs (by omega)).mono ?_; rintro e w2 ⟨rfl, hb2⟩)
      go_ret
      exact ⟨rfl, (HW.out.alloc _).below.trans (hb2.mono (HW.out.alloc _).below.size)⟩
    · skip
      omega

set_option maxRecDepth 100000 in
set_option maxHeartbeats 1600000 in
theorem tmay_k1 (s : ByteArray) (w : World) (hs : s.size ≤ 100000) :
    Calls Tryz.prog 293 #[.agg #[.int .i64 2, .string s]] w fun e w' => e = .returned (.bool (kmay digB digB 19 s.data.toList)) ∧ Below w.heap.size w w' := by
  go_enter Tryz.func293, Tryz.ntmps293
  go_wp2_with (go_at_call 80; refine (kinds_any _).mono ?_; rintro e w1 ⟨rfl, hb1⟩; have HW0 := Lib.hid ((TB.start w 2 s _).later hb1); clear hb1)
  go_loopw [12] (fun i wr => ∃ n : Nat, n ≤ 1 ∧ i = .int .i64 n ∧ TB w 2 s wr) (fun i _ => 3 - (intOf i).toNat)
  case atStart => exact ⟨0, by omega, rfl, HW0.out⟩
  case round =>
    obtain ⟨n, hn, rfl, hW⟩ := hrel
    have HW := Lib.hid hW
    clear hW HW0
    obtain ⟨wo, hwo⟩ : ∃ wo : World, wo = wr := ⟨_, rfl⟩
    rw [← hwo] at HW ⊢
    clear hwo
    by_cases hn0 : n = 0
    · subst hn0
      have r0 := HW.out.c0
      have r1 := HW.out.c1
      have rl := HW.out.lt
      have ix := kix0
      have rn : ¬ w.heap.size = wo.heap.size := by omega
      go_wp2
      go_roundw
      case rel => exact ⟨0 + 1, by omega, by go_num, HW.out.alloc _⟩
      case measure => simp [intOf]; try omega
    · skip
      by_cases hn1 : n = 1
      · subst hn1
        have r0 := HW.out.c0
        have r1 := HW.out.c1
        have rl := HW.out.lt
        have ix := kix1
        have rn : ¬ w.heap.size = wo.heap.size := by omega
        go_wp2_with (go_at_call 82; refine (kmay_any 2 19 _ _ digB digB cls_digit cls_digit s _ hs (by omega)).mono ?_; rintro e w2 ⟨rfl, hb2⟩)
        go_ret
        exact ⟨rfl, (HW.out.alloc _).below.trans (hb2.mono (HW.out.alloc _).below.size)⟩
      · skip
        omega

set_option maxRecDepth 100000 in
set_option maxHeartbeats 1600000 in
theorem tmay_k2 (s : ByteArray) (w : World) (hs : s.size ≤ 100000) :
    Calls Tryz.prog 293 #[.agg #[.int .i64 4, .string s]] w fun e w' => e = .returned (.bool (kmay sigB nonB 1 s.data.toList)) ∧ Below w.heap.size w w' := by
  go_enter Tryz.func293, Tryz.ntmps293
  go_wp2_with (go_at_call 80; refine (kinds_any _).mono ?_; rintro e w1 ⟨rfl, hb1⟩; have HW0 := Lib.hid ((TB.start w 4 s _).later hb1); clear hb1)
  go_loopw [12] (fun i wr => ∃ n : Nat, n ≤ 2 ∧ i = .int .i64 n ∧ TB w 4 s wr) (fun i _ => 3 - (intOf i).toNat)
  case atStart => exact ⟨0, by omega, rfl, HW0.out⟩
  case round =>
    obtain ⟨n, hn, rfl, hW⟩ := hrel
    have HW := Lib.hid hW
    clear hW HW0
    obtain ⟨wo, hwo⟩ : ∃ wo : World, wo = wr := ⟨_, rfl⟩
    rw [← hwo] at HW ⊢
    clear hwo
    by_cases hn0 : n = 0
    · subst hn0
      have r0 := HW.out.c0
      have r1 := HW.out.c1
      have rl := HW.out.lt
      have ix := kix0
      have rn : ¬ w.heap.size = wo.heap.size := by omega
      go_wp2
      go_roundw
      case rel => exact ⟨0 + 1, by omega, by go_num, HW.out.alloc _⟩
      case measure => simp [intOf]; try omega
    · skip
      by_cases hn1 : n = 1
      · subst hn1
        have r0 := HW.out.c0
        have r1 := HW.out.c1
        have rl := HW.out.lt
        have ix := kix1
        have rn : ¬ w.heap.size = wo.heap.size := by omega
        go_wp2
        go_roundw
        case rel => exact ⟨1 + 1, by omega, by go_num, HW.out.alloc _⟩
        case measure => simp [intOf]; try omega
      · skip
        by_cases hn2 : n = 2
        · subst hn2
          have r0 := HW.out.c0
          have r1 := HW.out.c1
          have rl := HW.out.lt
          have ix := kix2
          have rn : ¬ w.heap.size = wo.heap.size := by omega
          go_wp2_with (go_at_call 82; refine (kmay_any 4 1 _ _ sigB nonB cls_isSign cls_none s _ hs (by omega)).mono ?_; rintro e w2 ⟨rfl, hb2⟩)
          go_ret
          exact ⟨rfl, (HW.out.alloc _).below.trans (hb2.mono (HW.out.alloc _).below.size)⟩
        · skip
          omega

set_option maxRecDepth 100000 in
set_option maxHeartbeats 1600000 in
theorem tmay_k3 (k : Int) (s : ByteArray) (w : World) (hs : s.size ≤ 100000) (hk0 : ¬ k = 1) (hk1 : ¬ k = 2) (hk2 : ¬ k = 4) (hk3 : ¬ k = 3) :
    Calls Tryz.prog 293 #[.agg #[.int .i64 k, .string s]] w fun e w' => e = .returned (.bool false) ∧ Below w.heap.size w w' := by
  have n0 : ¬ (1 : Int) = k := fun h => hk0 h.symm
  have n1 : ¬ (2 : Int) = k := fun h => hk1 h.symm
  have n2 : ¬ (4 : Int) = k := fun h => hk2 h.symm
  go_enter Tryz.func293, Tryz.ntmps293
  go_wp2_with (go_at_call 80; refine (kinds_any _).mono ?_; rintro e w1 ⟨rfl, hb1⟩; have HW0 := Lib.hid ((TB.start w k s _).later hb1); clear hb1)
  go_loopw [12] (fun i wr => ∃ n : Nat, n ≤ 3 ∧ i = .int .i64 n ∧ TB w k s wr) (fun i _ => 3 - (intOf i).toNat)
  case atStart => exact ⟨0, by omega, rfl, HW0.out⟩
  case round =>
    obtain ⟨n, hn, rfl, hW⟩ := hrel
    have HW := Lib.hid hW
    clear hW HW0
    obtain ⟨wo, hwo⟩ : ∃ wo : World, wo = wr := ⟨_, rfl⟩
    rw [← hwo] at HW ⊢
    clear hwo
    by_cases hn0 : n = 0
    · subst hn0
      have r0 := HW.out.c0
      have r1 := HW.out.c1
      have rl := HW.out.lt
      have ix := kix0
      have rn : ¬ w.heap.size = wo.heap.size := by omega
      go_wp2
      go_roundw
      case rel => exact ⟨0 + 1, by omega, by go_num, HW.out.alloc _⟩
      case measure => simp [intOf]; try omega
    · skip
      by_cases hn1 : n = 1
      · subst hn1
        have r0 := HW.out.c0
        have r1 := HW.out.c1
        have rl := HW.out.lt
        have ix := kix1
        have rn : ¬ w.heap.size = wo.heap.size := by omega
        go_wp2
        go_roundw
        case rel => exact ⟨1 + 1, by omega, by go_num, HW.out.alloc _⟩
        case measure => simp [intOf]; try omega
      · skip
        by_cases hn2 : n = 2
        · subst hn2
          have r0 := HW.out.c0
          have r1 := HW.out.c1
          have rl := HW.out.lt
          have ix := kix2
          have rn : ¬ w.heap.size = wo.heap.size := by omega
          go_wp2
          go_roundw
          case rel => exact ⟨2 + 1, by omega, by go_num, HW.out.alloc _⟩
          case measure => simp [intOf]; try omega
        · skip
          obtain rfl : n = 3 := by omega
          go_wp2
          go_ret
          exact ⟨rfl, HW.out.below⟩

theorem tmay_any (k : Int) (s : ByteArray) (w : World) (hs : s.size ≤ 100000) :
    Calls Tryz.prog 293 #[.agg #[.int .i64 k, .string s]] w fun e w' => e = .returned (.bool (tmayB k s)) ∧ Below w.heap.size w w' := by
  unfold tmayB
  by_cases h3 : k = 3
  · rw [if_pos h3]; subst h3; exact tmay_3 s w
  · rw [if_neg h3]
    by_cases h1 : k = 1
    · rw [if_pos h1]; subst h1; exact tmay_k0 s w hs
    · rw [if_neg h1]
      by_cases h2 : k = 2
      · rw [if_pos h2]; subst h2; exact tmay_k1 s w hs
      · rw [if_neg h2]
        by_cases h4 : k = 4
        · rw [if_pos h4]; subst h4; exact tmay_k2 s w hs
        · rw [if_neg h4]; exact tmay_k3 k s w hs h1 h2 h4 h3
end Go.Proofs.YtlilnbcklplmfaaGreatDoor

/- The parser: its state, the token at hand. -/
namespace Go.Proofs.YtlilnbcklplmfaaGreatDoor
open Go.RowKit Go.Lib

theorem cSet2 {a b : World} {n k : Nat} (hn : n ≤ k) (h : Below n a b) (x y : Value) : Below n a ((b.setCell ⟨k, 0, none⟩ x).setCell ⟨k, 1, none⟩ y) := (h.setCell hn x).setCell hn y
structure Tn where
  k : Int
  s : ByteArray
structure TnAt (W : World) (a : Addr) (x : Tn) : Prop where
  c0 : W.cell? a = some (.int .i64 x.k)
  c1 : W.cell? ⟨a.block, a.off + 1, none⟩ = some (.string x.s)
theorem TnAt.lt {W : World} {a : Addr} {x : Tn} (h : TnAt W a x) : a.block < W.heap.size := World.block_lt_of_cell? W _ h.c0
theorem TnAt.keep {W W' : World} {a : Addr} {x : Tn} (h : TnAt W a x) (hb : W'.heap[a.block]? = W.heap[a.block]?) : TnAt W' a x :=
  ⟨(World.cell?_of_block (w := W) (a := a) hb).trans h.c0, (World.cell?_of_block (w := W) (a := ⟨a.block, _, none⟩) hb).trans h.c1⟩

/-- The parser in block g: its tokens, its place, how many words ask, whether it has failed. -/
structure Pz (W : World) (g : Nat) (A : Option Addr) (c : Nat) (l : List Tn) (at' ask : Nat) (failed : Bool) : Prop where
  st : W.heap[g]? = some (.cells #[.slice A l.length c, .int .i64 at', .int .i64 ask, .bool failed] 221 (0, 0))
  tk : ∀ j (h : j < l.length), ∃ a, A = some a ∧ a.block < g ∧ TnAt W (a.add (j * 2)) l[j]
  lib : ∃ w0 : World, LibE w0 ∧ w0.heap.size ≤ g ∧ Below w0.heap.size w0 W
section
variable {W W' : World} {g : Nat} {A : Option Addr} {c : Nat} {l : List Tn} {at' ask : Nat} {failed : Bool}
theorem Pz.lt (h : Pz W g A c l at' ask failed) : g < W.heap.size := (Array.getElem?_eq_some_iff.1 h.st).1
theorem Pz.c0 (h : Pz W g A c l at' ask failed) : W.cell? ⟨g, 0, none⟩ = some (.slice A l.length c) := by rw [Lib.cell_of_heap h.st]; rfl
theorem Pz.c1 (h : Pz W g A c l at' ask failed) : W.cell? ⟨g, 1, none⟩ = some (.int .i64 at') := by rw [Lib.cell_of_heap h.st]; rfl
theorem Pz.c2 (h : Pz W g A c l at' ask failed) : W.cell? ⟨g, 2, none⟩ = some (.int .i64 ask) := by rw [Lib.cell_of_heap h.st]; rfl
theorem Pz.c3 (h : Pz W g A c l at' ask failed) : W.cell? ⟨g, 3, none⟩ = some (.bool failed) := by rw [Lib.cell_of_heap h.st]; rfl
theorem Pz.fz (h : Pz W g A c l at' ask failed) (o : Nat) : W.frozen? ⟨g, o, none⟩ = false := Lib.frozen_of_heap h.st o
theorem Pz.keep (h : Pz W g A c l at' ask failed) (hb : ∀ b, b ≤ g → W'.heap[b]? = W.heap[b]?) (hB : ∀ w0 : World, w0.heap.size ≤ g → Below w0.heap.size w0 W → Below w0.heap.size w0 W') : Pz W' g A c l at' ask failed :=
  ⟨(hb g (Nat.le_refl _)).trans h.st, fun j hj => by
    obtain ⟨a, e, hne, hc⟩ := h.tk j hj
    exact ⟨a, e, hne, hc.keep (hb _ (by rw [add_block]; omega))⟩, by
    obtain ⟨w0, h1, h2, h3⟩ := h.lib
    exact ⟨w0, h1, h2, hB w0 h2 h3⟩⟩
theorem Pz.libE (h : Pz W g A c l at' ask failed) : LibE W := by
  obtain ⟨w0, h1, h2, h3⟩ := h.lib
  exact h1.keep h3 (Nat.le_refl _)
theorem Pz.below (h : Pz W g A c l at' ask failed) (hb : Below W.heap.size W W') : Pz W' g A c l at' ask failed := h.keep (fun b hl => hb.block b (by have := h.lt; omega)) fun w0 _ k => k.trans (hb.mono k.size)
theorem Pz.alloc (h : Pz W g A c l at' ask failed) (o : Obj) : Pz (W.alloc o) g A c l at' ask failed := h.below ((Below.refl _ _).alloc (Nat.le_refl _) o)
theorem Pz.other (h : Pz W g A c l at' ask failed) {b o : Nat} (v : Value) (hb : g < b) : Pz (W.setCell ⟨b, o, none⟩ v) g A c l at' ask failed :=
  h.keep (fun q hq => Below.heap_setCell _ _ _ _ (by show q ≠ b; omega)) fun w0 hw k => k.setCell (p := ⟨b, o, none⟩) (by show _ ≤ b; omega) _
theorem Pz.drew (h : Pz W g A c l at' ask failed) : Pz W.drew g A c l at' ask failed := h.keep (fun _ _ => rfl) fun _ _ k => k.drew
theorem Pz.libs (h : Pz W g A c l at' ask failed) (o : Nat) (v : Value) : ∃ w0 : World, LibE w0 ∧ w0.heap.size ≤ g ∧ Below w0.heap.size w0 (W.setCell ⟨g, o, none⟩ v) := by
  obtain ⟨w0, h1, h2, h3⟩ := h.lib
  exact ⟨w0, h1, h2, h3.setCell (p := ⟨g, o, none⟩) h2 _⟩
theorem Pz.goto (h : Pz W g A c l at' ask failed) (n : Nat) : Pz (W.setCell ⟨g, 1, none⟩ (.int .i64 n)) g A c l n ask failed := by
  refine ⟨?_, fun j hj => ?_, h.libs _ _⟩
  · have := h.st
    simp [World.setCell, Array.getElem?_modify, this]
  · obtain ⟨a, e, hne, hc⟩ := h.tk j hj
    exact ⟨a, e, hne, hc.keep (Below.heap_setCell _ _ _ _ (by rw [add_block]; show _ ≠ g; omega))⟩
theorem Pz.asks (h : Pz W g A c l at' ask failed) (n : Nat) : Pz (W.setCell ⟨g, 2, none⟩ (.int .i64 n)) g A c l at' n failed := by
  refine ⟨?_, fun j hj => ?_, h.libs _ _⟩
  · have := h.st
    simp [World.setCell, Array.getElem?_modify, this]
  · obtain ⟨a, e, hne, hc⟩ := h.tk j hj
    exact ⟨a, e, hne, hc.keep (Below.heap_setCell _ _ _ _ (by rw [add_block]; show _ ≠ g; omega))⟩
theorem Pz.fails (h : Pz W g A c l at' ask failed) : Pz (W.setCell ⟨g, 3, none⟩ (.bool true)) g A c l at' ask true := by
  refine ⟨?_, fun j hj => ?_, h.libs _ _⟩
  · have := h.st
    simp [World.setCell, Array.getElem?_modify, this]
  · obtain ⟨a, e, hne, hc⟩ := h.tk j hj
    exact ⟨a, e, hne, hc.keep (Below.heap_setCell _ _ _ _ (by rw [add_block]; show _ ≠ g; omega))⟩
end

set_option maxRecDepth 100000 in
set_option maxHeartbeats 4000000 in
theorem next_failed (g : Nat) (A : Option Addr) (c : Nat) (l : List Tn) (at' ask : Nat) (w : World) (hz : Pz w g A c l at' ask true) :
    Calls Tryz.prog 278 #[.pointer (some ⟨g, 0, none⟩)] w fun e w' => e = .returned (.agg #[.int .i64 0, .string ⟨#[]⟩]) ∧ Below w.heap.size w w' := by
  have HZ := Lib.hid hz
  have hgl := hz.lt
  have e0 := hz.c0
  have e1 := hz.c1
  have e3 := hz.c3
  clear hz
  obtain ⟨n, HN⟩ : ∃ n, Hid (l.length = n) := ⟨_, Lib.hid rfl⟩
  rw [HN.out] at e0
  go_enter Tryz.func278, Tryz.ntmps278
  go_wp2
  refine detL_begin [.val (.pointer (some ⟨g, 0, none⟩)), .val (.pointer (some ⟨g, 0, none⟩)), .val (.pointer (some ⟨g, 3, none⟩)), .val (.bool true), .val (.bool true), .val (undef), .val (undef), .val (undef), .val (undef), .val (undef), .val (undef), .val (undef), .val (undef), .val (undef), .val (undef), .val (.bool true), .val (.bool true), .val (undef), .val (undef), .val (undef), .val (undef), .val (undef), .val (undef), .val (undef), .val (undef), .val (undef), .val (undef), .val (undef), .val (undef), .val (.bool true)] 30 (by kernel_rfl) ?_
  refine detL_val (by kernel_rfl) (yields_of rfl fun w1 hb1 => ?_) ?_
  · have hc1 := bcellD hb1
    clear hb1
    go_simp
    exact Det1_same
  simp only [Act.put, List.setIfInBounds_toArray, List.set_cons_zero, List.set_cons_succ]
  refine detL_val (by kernel_rfl) (yields_of rfl fun w1 hb1 => ?_) ?_
  · have hc1 := bcellD hb1
    clear hb1
    go_simp
    exact Det1_same
  simp only [Act.put, List.setIfInBounds_toArray, List.set_cons_zero, List.set_cons_succ]
  refine detL_val (by kernel_rfl) (yields_of rfl fun w1 hb1 => ?_) ?_
  · have hc1 := bcellD hb1
    clear hb1
    go_simp
    exact Det1_same
  simp only [Act.put, List.setIfInBounds_toArray, List.set_cons_zero, List.set_cons_succ]
  refine detL_val (by kernel_rfl) (yields_of rfl fun w1 hb1 => ?_) ?_
  · have hc1 := bcellD hb1
    clear hb1
    go_simp
    exact Det1_same
  simp only [Act.put, List.setIfInBounds_toArray, List.set_cons_zero, List.set_cons_succ]
  refine detL_val (by kernel_rfl) (yields_of rfl fun w1 hb1 => ?_) ?_
  · have hc1 := bcellD hb1
    clear hb1
    go_simp
    exact Det1_same
  simp only [Act.put, List.setIfInBounds_toArray, List.set_cons_zero, List.set_cons_succ]
  refine detL_val (by kernel_rfl) (yields_not rfl) ?_
  simp only [Act.put, List.setIfInBounds_toArray, List.set_cons_zero, List.set_cons_succ]
  refine detL_val (by kernel_rfl) (yields_not rfl) ?_
  simp only [Act.put, List.setIfInBounds_toArray, List.set_cons_zero, List.set_cons_succ]
  refine detL_val (by kernel_rfl) (yields_not rfl) ?_
  simp only [Act.put, List.setIfInBounds_toArray, List.set_cons_zero, List.set_cons_succ]
  refine detL_val (by kernel_rfl) (yields_not rfl) ?_
  simp only [Act.put, List.setIfInBounds_toArray, List.set_cons_zero, List.set_cons_succ]
  refine detL_val (by kernel_rfl) (yields_not rfl) ?_
  simp only [Act.put, List.setIfInBounds_toArray, List.set_cons_zero, List.set_cons_succ]
  refine detL_val (by kernel_rfl) (yields_not rfl) ?_
  simp only [Act.put, List.setIfInBounds_toArray, List.set_cons_zero, List.set_cons_succ]
  refine detL_val (by kernel_rfl) (yields_not rfl) ?_
  simp only [Act.put, List.setIfInBounds_toArray, List.set_cons_zero, List.set_cons_succ]
  refine detL_val (by kernel_rfl) (yields_not rfl) ?_
  simp only [Act.put, List.setIfInBounds_toArray, List.set_cons_zero, List.set_cons_succ]
  refine detL_val (by kernel_rfl) (yields_not rfl) ?_
  simp only [Act.put, List.setIfInBounds_toArray, List.set_cons_zero, List.set_cons_succ]
  refine detL_val (by kernel_rfl) (yields_not rfl) ?_
  simp only [Act.put, List.setIfInBounds_toArray, List.set_cons_zero, List.set_cons_succ]
  refine detL_val (by kernel_rfl) (yields_of rfl fun w1 hb1 => ?_) ?_
  · have hc1 := bcellD hb1
    clear hb1
    go_simp
    exact Det1_same
  simp only [Act.put, List.setIfInBounds_toArray, List.set_cons_zero, List.set_cons_succ]
  refine detL_val (by kernel_rfl) (yields_of rfl fun w1 hb1 => ?_) ?_
  · have hc1 := bcellD hb1
    clear hb1
    go_simp
    exact Det1_same
  simp only [Act.put, List.setIfInBounds_toArray, List.set_cons_zero, List.set_cons_succ]
  refine detL_val (by kernel_rfl) (yields_not rfl) ?_
  simp only [Act.put, List.setIfInBounds_toArray, List.set_cons_zero, List.set_cons_succ]
  refine detL_val (by kernel_rfl) (yields_not rfl) ?_
  simp only [Act.put, List.setIfInBounds_toArray, List.set_cons_zero, List.set_cons_succ]
  refine detL_val (by kernel_rfl) (yields_not rfl) ?_
  simp only [Act.put, List.setIfInBounds_toArray, List.set_cons_zero, List.set_cons_succ]
  refine detL_val (by kernel_rfl) (yields_not rfl) ?_
  simp only [Act.put, List.setIfInBounds_toArray, List.set_cons_zero, List.set_cons_succ]
  refine detL_val (by kernel_rfl) (yields_not rfl) ?_
  simp only [Act.put, List.setIfInBounds_toArray, List.set_cons_zero, List.set_cons_succ]
  refine detL_val (by kernel_rfl) (yields_not rfl) ?_
  simp only [Act.put, List.setIfInBounds_toArray, List.set_cons_zero, List.set_cons_succ]
  refine detL_val (by kernel_rfl) (yields_not rfl) ?_
  simp only [Act.put, List.setIfInBounds_toArray, List.set_cons_zero, List.set_cons_succ]
  refine detL_val (by kernel_rfl) (yields_not rfl) ?_
  simp only [Act.put, List.setIfInBounds_toArray, List.set_cons_zero, List.set_cons_succ]
  refine detL_val (by kernel_rfl) (yields_not rfl) ?_
  simp only [Act.put, List.setIfInBounds_toArray, List.set_cons_zero, List.set_cons_succ]
  refine detL_val (by kernel_rfl) (yields_not rfl) ?_
  simp only [Act.put, List.setIfInBounds_toArray, List.set_cons_zero, List.set_cons_succ]
  refine detL_val (by kernel_rfl) (yields_not rfl) ?_
  simp only [Act.put, List.setIfInBounds_toArray, List.set_cons_zero, List.set_cons_succ]
  refine detL_val (by kernel_rfl) (yields_not rfl) ?_
  simp only [Act.put, List.setIfInBounds_toArray, List.set_cons_zero, List.set_cons_succ]
  refine detL_val (by kernel_rfl) (yields_of rfl fun w1 hb1 => ?_) ?_
  · have hc1 := bcellD hb1
    clear hb1
    go_simp
    exact Det1_same
  simp only [Act.put, List.setIfInBounds_toArray, List.set_cons_zero, List.set_cons_succ]
  refine detL_done (by kernel_rfl) fun w1 hw1 => ?_
  have hc1 := (bcell hw1.below).1
  have hf1 := (bcell hw1.below).2
  have hz1 : w.heap.size < w1.heap.size := by have := hw1.below.size; simp at this; omega
  have HB1 := Lib.hid hw1.below
  clear hw1
  go_wp2
  refine bodyPost_ret (v := .agg #[.int .i64 0, .string ⟨#[]⟩]) (by simp [results, Tryz.results278, go_sem, hc1, hf1, hz1]) rfl ⟨rfl, ?_⟩
  first
    | exact ((Below.refl _ _).alloc (Nat.le_refl _) _).drew.trans (HB1.out.mono (by simp))
    | exact cSet2 (by omega) (((Below.refl _ _).alloc (Nat.le_refl _) _).drew.trans (HB1.out.mono (by simp))) _ _

set_option maxRecDepth 100000 in
set_option maxHeartbeats 4000000 in
theorem next_end (g : Nat) (A : Option Addr) (c : Nat) (l : List Tn) (at' ask : Nat) (w : World) (hz : Pz w g A c l at' ask false) (he : at' = l.length) (hn : l.length ≤ 100000) :
    Calls Tryz.prog 278 #[.pointer (some ⟨g, 0, none⟩)] w fun e w' => e = .returned (.agg #[.int .i64 0, .string ⟨#[]⟩]) ∧ Below w.heap.size w w' := by
  have HZ := Lib.hid hz
  have hgl := hz.lt
  have e0 := hz.c0
  have e1 := hz.c1
  have e3 := hz.c3
  clear hz
  have hbq : ((at' : Nat) : Int) == ((l.length : Nat) : Int) := by simp [he]
  obtain ⟨n, HN⟩ : ∃ n, Hid (l.length = n) := ⟨_, Lib.hid rfl⟩
  rw [HN.out] at e0 hbq hn
  clear he
  go_enter Tryz.func278, Tryz.ntmps278
  go_wp2
  refine detL_begin [.val (.pointer (some ⟨g, 0, none⟩)), .val (.pointer (some ⟨g, 0, none⟩)), .val (.pointer (some ⟨g, 3, none⟩)), .val (.bool false), .val (.bool false), .val (.pointer (some ⟨g, 0, none⟩)), .val (.pointer (some ⟨g, 0, none⟩)), .val (.pointer (some ⟨g, 1, none⟩)), .val (.int .i64 at'), .val (.pointer (some ⟨g, 0, none⟩)), .val (.pointer (some ⟨g, 0, none⟩)), .val (.pointer (some ⟨g, 0, none⟩)), .val (.slice A n c), .val (.int .i64 n), .val (.bool true), .val (.bool true), .val (.bool true), .val (undef), .val (undef), .val (undef), .val (undef), .val (undef), .val (undef), .val (undef), .val (undef), .val (undef), .val (undef), .val (undef), .val (undef), .val (.bool true)] 30 (by kernel_rfl) ?_
  refine detL_val (by kernel_rfl) (yields_of rfl fun w1 hb1 => ?_) ?_
  · have hc1 := bcellD hb1
    clear hb1
    go_simp
    exact Det1_same
  simp only [Act.put, List.setIfInBounds_toArray, List.set_cons_zero, List.set_cons_succ]
  refine detL_val (by kernel_rfl) (yields_of rfl fun w1 hb1 => ?_) ?_
  · have hc1 := bcellD hb1
    clear hb1
    go_simp
    exact Det1_same
  simp only [Act.put, List.setIfInBounds_toArray, List.set_cons_zero, List.set_cons_succ]
  refine detL_val (by kernel_rfl) (yields_of rfl fun w1 hb1 => ?_) ?_
  · have hc1 := bcellD hb1
    clear hb1
    go_simp
    exact Det1_same
  simp only [Act.put, List.setIfInBounds_toArray, List.set_cons_zero, List.set_cons_succ]
  refine detL_val (by kernel_rfl) (yields_of rfl fun w1 hb1 => ?_) ?_
  · have hc1 := bcellD hb1
    clear hb1
    go_simp
    exact Det1_same
  simp only [Act.put, List.setIfInBounds_toArray, List.set_cons_zero, List.set_cons_succ]
  refine detL_val (by kernel_rfl) (yields_of rfl fun w1 hb1 => ?_) ?_
  · have hc1 := bcellD hb1
    clear hb1
    go_simp
    exact Det1_same
  simp only [Act.put, List.setIfInBounds_toArray, List.set_cons_zero, List.set_cons_succ]
  refine detL_val (by kernel_rfl) (yields_of rfl fun w1 hb1 => ?_) ?_
  · have hc1 := bcellD hb1
    clear hb1
    go_simp
    exact Det1_same
  simp only [Act.put, List.setIfInBounds_toArray, List.set_cons_zero, List.set_cons_succ]
  refine detL_val (by kernel_rfl) (yields_of rfl fun w1 hb1 => ?_) ?_
  · have hc1 := bcellD hb1
    clear hb1
    go_simp
    exact Det1_same
  simp only [Act.put, List.setIfInBounds_toArray, List.set_cons_zero, List.set_cons_succ]
  refine detL_val (by kernel_rfl) (yields_of rfl fun w1 hb1 => ?_) ?_
  · have hc1 := bcellD hb1
    clear hb1
    go_simp
    exact Det1_same
  simp only [Act.put, List.setIfInBounds_toArray, List.set_cons_zero, List.set_cons_succ]
  refine detL_val (by kernel_rfl) (yields_of rfl fun w1 hb1 => ?_) ?_
  · have hc1 := bcellD hb1
    clear hb1
    go_simp
    exact Det1_same
  simp only [Act.put, List.setIfInBounds_toArray, List.set_cons_zero, List.set_cons_succ]
  refine detL_val (by kernel_rfl) (yields_of rfl fun w1 hb1 => ?_) ?_
  · have hc1 := bcellD hb1
    clear hb1
    go_simp
    exact Det1_same
  simp only [Act.put, List.setIfInBounds_toArray, List.set_cons_zero, List.set_cons_succ]
  refine detL_val (by kernel_rfl) (yields_of rfl fun w1 hb1 => ?_) ?_
  · have hc1 := bcellD hb1
    clear hb1
    go_simp
    exact Det1_same
  simp only [Act.put, List.setIfInBounds_toArray, List.set_cons_zero, List.set_cons_succ]
  refine detL_val (by kernel_rfl) (yields_of rfl fun w1 hb1 => ?_) ?_
  · have hc1 := bcellD hb1
    clear hb1
    go_simp
    exact Det1_same
  simp only [Act.put, List.setIfInBounds_toArray, List.set_cons_zero, List.set_cons_succ]
  refine detL_val (by kernel_rfl) (yields_of rfl fun w1 hb1 => ?_) ?_
  · have hc1 := bcellD hb1
    clear hb1
    go_simp
    exact Det1_same
  simp only [Act.put, List.setIfInBounds_toArray, List.set_cons_zero, List.set_cons_succ]
  refine detL_val (by kernel_rfl) (yields_of rfl fun w1 hb1 => ?_) ?_
  · have hc1 := bcellD hb1
    clear hb1
    go_simp
    exact Det1_same
  simp only [Act.put, List.setIfInBounds_toArray, List.set_cons_zero, List.set_cons_succ]
  refine detL_val (by kernel_rfl) (yields_of rfl fun w1 hb1 => ?_) ?_
  · have hc1 := bcellD hb1
    clear hb1
    go_simp
    exact Det1_same
  simp only [Act.put, List.setIfInBounds_toArray, List.set_cons_zero, List.set_cons_succ]
  refine detL_val (by kernel_rfl) (yields_of rfl fun w1 hb1 => ?_) ?_
  · have hc1 := bcellD hb1
    clear hb1
    go_simp
    exact Det1_same
  simp only [Act.put, List.setIfInBounds_toArray, List.set_cons_zero, List.set_cons_succ]
  refine detL_val (by kernel_rfl) (yields_of rfl fun w1 hb1 => ?_) ?_
  · have hc1 := bcellD hb1
    clear hb1
    go_simp
    exact Det1_same
  simp only [Act.put, List.setIfInBounds_toArray, List.set_cons_zero, List.set_cons_succ]
  refine detL_val (by kernel_rfl) (yields_not rfl) ?_
  simp only [Act.put, List.setIfInBounds_toArray, List.set_cons_zero, List.set_cons_succ]
  refine detL_val (by kernel_rfl) (yields_not rfl) ?_
  simp only [Act.put, List.setIfInBounds_toArray, List.set_cons_zero, List.set_cons_succ]
  refine detL_val (by kernel_rfl) (yields_not rfl) ?_
  simp only [Act.put, List.setIfInBounds_toArray, List.set_cons_zero, List.set_cons_succ]
  refine detL_val (by kernel_rfl) (yields_not rfl) ?_
  simp only [Act.put, List.setIfInBounds_toArray, List.set_cons_zero, List.set_cons_succ]
  refine detL_val (by kernel_rfl) (yields_not rfl) ?_
  simp only [Act.put, List.setIfInBounds_toArray, List.set_cons_zero, List.set_cons_succ]
  refine detL_val (by kernel_rfl) (yields_not rfl) ?_
  simp only [Act.put, List.setIfInBounds_toArray, List.set_cons_zero, List.set_cons_succ]
  refine detL_val (by kernel_rfl) (yields_not rfl) ?_
  simp only [Act.put, List.setIfInBounds_toArray, List.set_cons_zero, List.set_cons_succ]
  refine detL_val (by kernel_rfl) (yields_not rfl) ?_
  simp only [Act.put, List.setIfInBounds_toArray, List.set_cons_zero, List.set_cons_succ]
  refine detL_val (by kernel_rfl) (yields_not rfl) ?_
  simp only [Act.put, List.setIfInBounds_toArray, List.set_cons_zero, List.set_cons_succ]
  refine detL_val (by kernel_rfl) (yields_not rfl) ?_
  simp only [Act.put, List.setIfInBounds_toArray, List.set_cons_zero, List.set_cons_succ]
  refine detL_val (by kernel_rfl) (yields_not rfl) ?_
  simp only [Act.put, List.setIfInBounds_toArray, List.set_cons_zero, List.set_cons_succ]
  refine detL_val (by kernel_rfl) (yields_not rfl) ?_
  simp only [Act.put, List.setIfInBounds_toArray, List.set_cons_zero, List.set_cons_succ]
  refine detL_val (by kernel_rfl) (yields_of rfl fun w1 hb1 => ?_) ?_
  · have hc1 := bcellD hb1
    clear hb1
    go_simp
    exact Det1_same
  simp only [Act.put, List.setIfInBounds_toArray, List.set_cons_zero, List.set_cons_succ]
  refine detL_done (by kernel_rfl) fun w1 hw1 => ?_
  have hc1 := (bcell hw1.below).1
  have hf1 := (bcell hw1.below).2
  have hz1 : w.heap.size < w1.heap.size := by have := hw1.below.size; simp at this; omega
  have HB1 := Lib.hid hw1.below
  clear hw1
  go_wp2
  refine bodyPost_ret (v := .agg #[.int .i64 0, .string ⟨#[]⟩]) (by simp [results, Tryz.results278, go_sem, hc1, hf1, hz1]) rfl ⟨rfl, ?_⟩
  first
    | exact ((Below.refl _ _).alloc (Nat.le_refl _) _).drew.trans (HB1.out.mono (by simp))
    | exact cSet2 (by omega) (((Below.refl _ _).alloc (Nat.le_refl _) _).drew.trans (HB1.out.mono (by simp))) _ _

set_option maxRecDepth 100000 in
set_option maxHeartbeats 4000000 in
theorem next_tok (g : Nat) (A : Option Addr) (c : Nat) (l : List Tn) (at' ask : Nat) (w : World) (hz : Pz w g A c l at' ask false) (x : Tn) (hx : l[at']? = some x) (hm : tmayB x.k x.s = true) (hts : x.s.size ≤ 100000) (hn : l.length ≤ 100000) :
    Calls Tryz.prog 278 #[.pointer (some ⟨g, 0, none⟩)] w fun e w' => e = .returned (.agg #[.int .i64 x.k, .string x.s]) ∧ Below w.heap.size w w' := by
  obtain ⟨hlt, hx⟩ := List.getElem?_eq_some_iff.1 hx
  obtain ⟨a, rfl, hag, hA⟩ := hz.tk at' hlt
  rw [hx] at hA
  have hab := hA.lt
  obtain ⟨tk, ts⟩ := x
  have HT := Lib.hid hm
  have HA := Lib.hid hA
  have hbq : (((at' : Nat) : Int) == ((l.length : Nat) : Int)) = false := beq_eq_false_iff_ne.2 (by omega)
  have c0 := hA.c0
  have c1 := hA.c1
  clear hx hm hA
  have HZ := Lib.hid hz
  have hgl := hz.lt
  have e0 := hz.c0
  have e1 := hz.c1
  have e3 := hz.c3
  clear hz
  obtain ⟨n, HN⟩ : ∃ n, Hid (l.length = n) := ⟨_, Lib.hid rfl⟩
  rw [HN.out] at e0 hbq hn hlt
  simp only at hts c0 c1 hab ⊢
  go_enter Tryz.func278, Tryz.ntmps278
  go_wp2
  refine detL_begin [.val (.pointer (some ⟨g, 0, none⟩)), .val (.pointer (some ⟨g, 0, none⟩)), .val (.pointer (some ⟨g, 3, none⟩)), .val (.bool false), .val (.bool false), .val (.pointer (some ⟨g, 0, none⟩)), .val (.pointer (some ⟨g, 0, none⟩)), .val (.pointer (some ⟨g, 1, none⟩)), .val (.int .i64 at'), .val (.pointer (some ⟨g, 0, none⟩)), .val (.pointer (some ⟨g, 0, none⟩)), .val (.pointer (some ⟨g, 0, none⟩)), .val (.slice (some a) n c), .val (.int .i64 n), .val (.bool false), .val (.bool false), .val (.bool false), .val (.pointer (some ⟨g, 0, none⟩)), .val (.pointer (some ⟨g, 0, none⟩)), .val (.pointer (some ⟨g, 0, none⟩)), .val (.slice (some a) n c), .val (.pointer (some ⟨g, 0, none⟩)), .val (.pointer (some ⟨g, 0, none⟩)), .val (.pointer (some ⟨g, 1, none⟩)), .val (.int .i64 at'), .val (.pointer (some (a.add (at' * 2)))), .val (.agg #[.int .i64 tk, .string ts]), .val (.bool true), .val (.bool false), .val (.bool false)] 30 (by kernel_rfl) ?_
  refine detL_val (by kernel_rfl) (yields_of rfl fun w1 hb1 => ?_) ?_
  · have hc1 := bcellD hb1
    clear hb1
    go_simp
    exact Det1_same
  simp only [Act.put, List.setIfInBounds_toArray, List.set_cons_zero, List.set_cons_succ]
  refine detL_val (by kernel_rfl) (yields_of rfl fun w1 hb1 => ?_) ?_
  · have hc1 := bcellD hb1
    clear hb1
    go_simp
    exact Det1_same
  simp only [Act.put, List.setIfInBounds_toArray, List.set_cons_zero, List.set_cons_succ]
  refine detL_val (by kernel_rfl) (yields_of rfl fun w1 hb1 => ?_) ?_
  · have hc1 := bcellD hb1
    clear hb1
    go_simp
    exact Det1_same
  simp only [Act.put, List.setIfInBounds_toArray, List.set_cons_zero, List.set_cons_succ]
  refine detL_val (by kernel_rfl) (yields_of rfl fun w1 hb1 => ?_) ?_
  · have hc1 := bcellD hb1
    clear hb1
    go_simp
    exact Det1_same
  simp only [Act.put, List.setIfInBounds_toArray, List.set_cons_zero, List.set_cons_succ]
  refine detL_val (by kernel_rfl) (yields_of rfl fun w1 hb1 => ?_) ?_
  · have hc1 := bcellD hb1
    clear hb1
    go_simp
    exact Det1_same
  simp only [Act.put, List.setIfInBounds_toArray, List.set_cons_zero, List.set_cons_succ]
  refine detL_val (by kernel_rfl) (yields_of rfl fun w1 hb1 => ?_) ?_
  · have hc1 := bcellD hb1
    clear hb1
    go_simp
    exact Det1_same
  simp only [Act.put, List.setIfInBounds_toArray, List.set_cons_zero, List.set_cons_succ]
  refine detL_val (by kernel_rfl) (yields_of rfl fun w1 hb1 => ?_) ?_
  · have hc1 := bcellD hb1
    clear hb1
    go_simp
    exact Det1_same
  simp only [Act.put, List.setIfInBounds_toArray, List.set_cons_zero, List.set_cons_succ]
  refine detL_val (by kernel_rfl) (yields_of rfl fun w1 hb1 => ?_) ?_
  · have hc1 := bcellD hb1
    clear hb1
    go_simp
    exact Det1_same
  simp only [Act.put, List.setIfInBounds_toArray, List.set_cons_zero, List.set_cons_succ]
  refine detL_val (by kernel_rfl) (yields_of rfl fun w1 hb1 => ?_) ?_
  · have hc1 := bcellD hb1
    clear hb1
    go_simp
    exact Det1_same
  simp only [Act.put, List.setIfInBounds_toArray, List.set_cons_zero, List.set_cons_succ]
  refine detL_val (by kernel_rfl) (yields_of rfl fun w1 hb1 => ?_) ?_
  · have hc1 := bcellD hb1
    clear hb1
    go_simp
    exact Det1_same
  simp only [Act.put, List.setIfInBounds_toArray, List.set_cons_zero, List.set_cons_succ]
  refine detL_val (by kernel_rfl) (yields_of rfl fun w1 hb1 => ?_) ?_
  · have hc1 := bcellD hb1
    clear hb1
    go_simp
    exact Det1_same
  simp only [Act.put, List.setIfInBounds_toArray, List.set_cons_zero, List.set_cons_succ]
  refine detL_val (by kernel_rfl) (yields_of rfl fun w1 hb1 => ?_) ?_
  · have hc1 := bcellD hb1
    clear hb1
    go_simp
    exact Det1_same
  simp only [Act.put, List.setIfInBounds_toArray, List.set_cons_zero, List.set_cons_succ]
  refine detL_val (by kernel_rfl) (yields_of rfl fun w1 hb1 => ?_) ?_
  · have hc1 := bcellD hb1
    clear hb1
    go_simp
    exact Det1_same
  simp only [Act.put, List.setIfInBounds_toArray, List.set_cons_zero, List.set_cons_succ]
  refine detL_val (by kernel_rfl) (yields_of rfl fun w1 hb1 => ?_) ?_
  · have hc1 := bcellD hb1
    clear hb1
    go_simp
    exact Det1_same
  simp only [Act.put, List.setIfInBounds_toArray, List.set_cons_zero, List.set_cons_succ]
  refine detL_val (by kernel_rfl) (yields_of rfl fun w1 hb1 => ?_) ?_
  · have hc1 := bcellD hb1
    clear hb1
    go_simp
    exact Det1_same
  simp only [Act.put, List.setIfInBounds_toArray, List.set_cons_zero, List.set_cons_succ]
  refine detL_val (by kernel_rfl) (yields_of rfl fun w1 hb1 => ?_) ?_
  · have hc1 := bcellD hb1
    clear hb1
    go_simp
    exact Det1_same
  simp only [Act.put, List.setIfInBounds_toArray, List.set_cons_zero, List.set_cons_succ]
  refine detL_val (by kernel_rfl) (yields_of rfl fun w1 hb1 => ?_) ?_
  · have hc1 := bcellD hb1
    clear hb1
    go_simp
    exact Det1_same
  simp only [Act.put, List.setIfInBounds_toArray, List.set_cons_zero, List.set_cons_succ]
  refine detL_val (by kernel_rfl) (yields_of rfl fun w1 hb1 => ?_) ?_
  · have hc1 := bcellD hb1
    clear hb1
    go_simp
    exact Det1_same
  simp only [Act.put, List.setIfInBounds_toArray, List.set_cons_zero, List.set_cons_succ]
  refine detL_val (by kernel_rfl) (yields_of rfl fun w1 hb1 => ?_) ?_
  · have hc1 := bcellD hb1
    clear hb1
    go_simp
    exact Det1_same
  simp only [Act.put, List.setIfInBounds_toArray, List.set_cons_zero, List.set_cons_succ]
  refine detL_val (by kernel_rfl) (yields_of rfl fun w1 hb1 => ?_) ?_
  · have hc1 := bcellD hb1
    clear hb1
    go_simp
    exact Det1_same
  simp only [Act.put, List.setIfInBounds_toArray, List.set_cons_zero, List.set_cons_succ]
  refine detL_val (by kernel_rfl) (yields_of rfl fun w1 hb1 => ?_) ?_
  · have hc1 := bcellD hb1
    clear hb1
    go_simp
    exact Det1_same
  simp only [Act.put, List.setIfInBounds_toArray, List.set_cons_zero, List.set_cons_succ]
  refine detL_val (by kernel_rfl) (yields_of rfl fun w1 hb1 => ?_) ?_
  · have hc1 := bcellD hb1
    clear hb1
    go_simp
    exact Det1_same
  simp only [Act.put, List.setIfInBounds_toArray, List.set_cons_zero, List.set_cons_succ]
  refine detL_val (by kernel_rfl) (yields_of rfl fun w1 hb1 => ?_) ?_
  · have hc1 := bcellD hb1
    clear hb1
    go_simp
    exact Det1_same
  simp only [Act.put, List.setIfInBounds_toArray, List.set_cons_zero, List.set_cons_succ]
  refine detL_val (by kernel_rfl) (yields_of rfl fun w1 hb1 => ?_) ?_
  · have hc1 := bcellD hb1
    clear hb1
    go_simp
    exact Det1_same
  simp only [Act.put, List.setIfInBounds_toArray, List.set_cons_zero, List.set_cons_succ]
  refine detL_val (by kernel_rfl) (yields_of rfl fun w1 hb1 => ?_) ?_
  · have hc1 := bcellD hb1
    clear hb1
    go_simp
    exact Det1_same
  simp only [Act.put, List.setIfInBounds_toArray, List.set_cons_zero, List.set_cons_succ]
  refine detL_val (by kernel_rfl) (yields_of rfl fun w1 hb1 => ?_) ?_
  · have hc1 := bcellD hb1
    clear hb1
    go_simp
    exact Det1_same
  simp only [Act.put, List.setIfInBounds_toArray, List.set_cons_zero, List.set_cons_succ]
  refine detL_val (by kernel_rfl) (yields_of rfl fun w1 hb1 => ?_) ?_
  · have hc1 := bcellD hb1
    have hbw : Below w.heap.size w w1 := ((Below.refl _ _).alloc (Nat.le_refl _) _).drew.trans (hb1.mono (by simp)); have cA := (TnAt.keep HA.out (hbw.block _ hab)); have k0 := cA.c0; have k1 := cA.c1; clear cA
    clear hb1
    go_simp
    exact Det1_same
  simp only [Act.put, List.setIfInBounds_toArray, List.set_cons_zero, List.set_cons_succ]
  refine detL_val (by kernel_rfl) (yields_of rfl fun w1 hb1 => ?_) ?_
  · have hc1 := bcellD hb1
    clear hb1
    go_simp
    exact Det1_enter (by rw [← HT.out]; exact tmay_any _ _ _ hts)
  simp only [Act.put, List.setIfInBounds_toArray, List.set_cons_zero, List.set_cons_succ]
  refine detL_val (by kernel_rfl) (yields_of rfl fun w1 hb1 => ?_) ?_
  · have hc1 := bcellD hb1
    clear hb1
    go_simp
    exact Det1_same
  simp only [Act.put, List.setIfInBounds_toArray, List.set_cons_zero, List.set_cons_succ]
  refine detL_val (by kernel_rfl) (yields_of rfl fun w1 hb1 => ?_) ?_
  · have hc1 := bcellD hb1
    clear hb1
    go_simp
    exact Det1_same
  simp only [Act.put, List.setIfInBounds_toArray, List.set_cons_zero, List.set_cons_succ]
  refine detL_done (by kernel_rfl) fun w1 hw1 => ?_
  have hc1 := (bcell hw1.below).1
  have hf1 := (bcell hw1.below).2
  have hz1 : w.heap.size < w1.heap.size := by have := hw1.below.size; simp at this; omega
  have HB1 := Lib.hid hw1.below
  clear hw1
  have hbw : Below w.heap.size w w1 := ((Below.refl _ _).alloc (Nat.le_refl _) _).drew.trans (HB1.out.mono (by simp))
  have HA1 : Hid (TnAt w1 (a.add (at' * 2)) ⟨tk, ts⟩) := HA.out.keep (hbw.block _ hab)
  have k0 := HA1.out.c0
  have k1 := HA1.out.c1
  have f0 : w1.cell? ⟨g, 0, none⟩ = some (.slice (some a) n c) := (hbw.cell (p := ⟨g, 0, none⟩) hgl).trans e0
  have f1 : w1.cell? ⟨g, 1, none⟩ = some (.int .i64 at') := (hbw.cell (p := ⟨g, 1, none⟩) hgl).trans e1
  have hwl := hbw.size
  have hab1 : (a.add (at' * 2)).block < w1.heap.size := by omega
  have hgl1 : g < w1.heap.size := by omega
  have r0 : w1.cell? ⟨w.heap.size, 0, none⟩ = some (.int .i64 0) := by rw [hc1 _ _ (by simp)]; simp [go_sem]
  have r1 : w1.cell? ⟨w.heap.size, 1, none⟩ = some (.string ⟨#[]⟩) := by rw [hc1 _ _ (by simp)]; simp [go_sem]
  have rf : ∀ o, w1.frozen? ⟨w.heap.size, o, none⟩ = false := fun o => by rw [hf1 _ _ (by simp)]; simp [go_sem]
  have HBW := Lib.hid hbw
  have HRF := Lib.hid rf
  clear hc1 hf1 e0 e1 e3 c0 c1 hbw rf HB1
  go_wp2
  refine detL_begin [.val (.pointer (some ⟨g, 0, none⟩)), .val (.pointer (some ⟨g, 0, none⟩)), .val (.pointer (some ⟨g, 0, none⟩)), .val (.slice (some a) n c), .val (.pointer (some ⟨g, 0, none⟩)), .val (.pointer (some ⟨g, 0, none⟩)), .val (.pointer (some ⟨g, 1, none⟩)), .val (.int .i64 at'), .val (.pointer (some (a.add (at' * 2)))), .val (.agg #[.int .i64 tk, .string ts])] 10 (by kernel_rfl) ?_
  refine detL_val (by kernel_rfl) (yields_of rfl fun w1 hb1 => ?_) ?_
  · have hc1 := bcellD hb1
    clear hb1
    go_simp
    exact Det1_same
  simp only [Act.put, List.setIfInBounds_toArray, List.set_cons_zero, List.set_cons_succ]
  refine detL_val (by kernel_rfl) (yields_of rfl fun w1 hb1 => ?_) ?_
  · have hc1 := bcellD hb1
    clear hb1
    go_simp
    exact Det1_same
  simp only [Act.put, List.setIfInBounds_toArray, List.set_cons_zero, List.set_cons_succ]
  refine detL_val (by kernel_rfl) (yields_of rfl fun w1 hb1 => ?_) ?_
  · have hc1 := bcellD hb1
    clear hb1
    go_simp
    exact Det1_same
  simp only [Act.put, List.setIfInBounds_toArray, List.set_cons_zero, List.set_cons_succ]
  refine detL_val (by kernel_rfl) (yields_of rfl fun w1 hb1 => ?_) ?_
  · have hc1 := bcellD hb1
    clear hb1
    go_simp
    exact Det1_same
  simp only [Act.put, List.setIfInBounds_toArray, List.set_cons_zero, List.set_cons_succ]
  refine detL_val (by kernel_rfl) (yields_of rfl fun w1 hb1 => ?_) ?_
  · have hc1 := bcellD hb1
    clear hb1
    go_simp
    exact Det1_same
  simp only [Act.put, List.setIfInBounds_toArray, List.set_cons_zero, List.set_cons_succ]
  refine detL_val (by kernel_rfl) (yields_of rfl fun w1 hb1 => ?_) ?_
  · have hc1 := bcellD hb1
    clear hb1
    go_simp
    exact Det1_same
  simp only [Act.put, List.setIfInBounds_toArray, List.set_cons_zero, List.set_cons_succ]
  refine detL_val (by kernel_rfl) (yields_of rfl fun w1 hb1 => ?_) ?_
  · have hc1 := bcellD hb1
    clear hb1
    go_simp
    exact Det1_same
  simp only [Act.put, List.setIfInBounds_toArray, List.set_cons_zero, List.set_cons_succ]
  refine detL_val (by kernel_rfl) (yields_of rfl fun w1 hb1 => ?_) ?_
  · have hc1 := bcellD hb1
    clear hb1
    go_simp
    exact Det1_same
  simp only [Act.put, List.setIfInBounds_toArray, List.set_cons_zero, List.set_cons_succ]
  refine detL_val (by kernel_rfl) (yields_of rfl fun w1 hb1 => ?_) ?_
  · have hc1 := bcellD hb1
    clear hb1
    go_simp
    exact Det1_same
  simp only [Act.put, List.setIfInBounds_toArray, List.set_cons_zero, List.set_cons_succ]
  refine detL_val (by kernel_rfl) (yields_of rfl fun w1 hb1 => ?_) ?_
  · have hc1 := bcellD hb1
    have cA := HA1.out.keep (hb1.block _ hab1); have j0 := cA.c0; have j1 := cA.c1; clear cA
    clear hb1
    go_simp
    exact Det1_same
  simp only [Act.put, List.setIfInBounds_toArray, List.set_cons_zero, List.set_cons_succ]
  refine detL_tail rfl (by kernel_rfl) fun w2 hw2 => ?_
  have hc2 := (bcell hw2.below).1
  have hz2 : w.heap.size < w2.heap.size := by have := hw2.below.size; simp at this; omega
  have g0 : w2.cell? ⟨w.heap.size, 0, none⟩ = some (.int .i64 0) := (hc2 _ _ (by simpa using hz1)).trans r0
  have g1 : w2.cell? ⟨w.heap.size, 1, none⟩ = some (.string ⟨#[]⟩) := (hc2 _ _ (by simpa using hz1)).trans r1
  have gf0 : w2.frozen? ⟨w.heap.size, 0, none⟩ = false := ((bcell hw2.below).2 _ _ (by simpa using hz1)).trans (HRF.out 0)
  have gf1 : w2.frozen? ⟨w.heap.size, 1, none⟩ = false := ((bcell hw2.below).2 _ _ (by simpa using hz1)).trans (HRF.out 1)
  have HB2 := Lib.hid hw2.below
  clear hw2 hc2 r0 r1
  go_wp2
  refine bodyPost_ret (v := .agg #[.int .i64 tk, .string ts]) (by simp [results, Tryz.results278, go_sem, *]) rfl ⟨rfl, ?_⟩
  exact cSet2 (by omega) (HBW.out.trans ((Below.refl w1.heap.size w1).drew.trans HB2.out |>.mono hwl)) _ _

/-- The token at hand. -/
def Nx (l : List Tn) (at' : Nat) (failed : Bool) (t : Tn) : Prop :=
  (failed = true ∧ t = ⟨0, ⟨#[]⟩⟩) ∨ (failed = false ∧ at' = l.length ∧ t = ⟨0, ⟨#[]⟩⟩) ∨ (failed = false ∧ l[at']? = some t ∧ tmayB t.k t.s = true ∧ t.s.size ≤ 100000)
theorem next_any (g : Nat) (A : Option Addr) (c : Nat) (l : List Tn) (at' ask : Nat) (failed : Bool) (w : World) (hz : Pz w g A c l at' ask failed) (hn : l.length ≤ 100000) (t : Tn) (ht : Nx l at' failed t) :
    Calls Tryz.prog 278 #[.pointer (some ⟨g, 0, none⟩)] w fun e w' => e = .returned (.agg #[.int .i64 t.k, .string t.s]) ∧ Below w.heap.size w w' := by
  rcases ht with ⟨rfl, rfl⟩ | ⟨rfl, he, rfl⟩ | ⟨rfl, hx, hm, hs⟩
  · exact next_failed g A c l at' ask w hz
  · exact next_end g A c l at' ask w hz he hn
  · exact next_tok g A c l at' ask w hz t hx hm hs hn
end Go.Proofs.YtlilnbcklplmfaaGreatDoor

/- The parser: what it takes; where it fails; what is checked. -/
namespace Go.Proofs.YtlilnbcklplmfaaGreatDoor
open Go.RowKit Go.Lib

theorem cSet6 {a b : World} {n k : Nat} (hn : n ≤ k) (h : Below n a b) (x y z u v r : Value) : Below n a ((((((b.setCell ⟨k, 0, none⟩ x).setCell ⟨k, 1, none⟩ y).setCell ⟨k, 2, none⟩ z).setCell ⟨k, 3, none⟩ u).setCell ⟨k, 4, none⟩ v).setCell ⟨k, 5, none⟩ r) :=
  (((((h.setCell hn x).setCell hn y).setCell hn z).setCell hn u).setCell hn v).setCell hn r
def isB (t : Tn) (wd : ByteArray) : Bool := (decide (t.k = 1) || decide (t.k = 4)) && (t.s.toList == wd.toList)
theorem gcell {W w1 : World} {g : Nat} (h : W.grownBy w1 (some g)) : (∀ b o, b < W.heap.size → ¬ b = g → w1.cell? ⟨b, o, none⟩ = W.cell? ⟨b, o, none⟩) ∧ (∀ b o, b < W.heap.size → ¬ b = g → w1.frozen? ⟨b, o, none⟩ = W.frozen? ⟨b, o, none⟩) :=
  ⟨fun b o hl hn => World.cell?_of_block (w := W) (a := ⟨b, o, none⟩) (h.block b hl (fun e => hn (by injection e))), fun b o hl hn => World.frozen?_of_block (w := W) (a := ⟨b, o, none⟩) (h.block b hl (fun e => hn (by injection e)))⟩
def set6 (W : World) (b : Nat) (x y z u v r : Value) : World := (((((W.setCell ⟨b, 0, none⟩ x).setCell ⟨b, 1, none⟩ y).setCell ⟨b, 2, none⟩ z).setCell ⟨b, 3, none⟩ u).setCell ⟨b, 4, none⟩ v).setCell ⟨b, 5, none⟩ r
theorem set6_block (W : World) (b : Nat) (x y z u v r : Value) {q : Nat} (h : q ≠ b) : (set6 W b x y z u v r).heap[q]? = W.heap[q]? := by
  unfold set6
  iterate 6 rw [Below.heap_setCell _ _ _ _ (by exact h)]
theorem set6_size (W : World) (b : Nat) (x y z u v r : Value) : (set6 W b x y z u v r).heap.size = W.heap.size := by simp [set6, World.setCell]
theorem Pz.set6 {W : World} {g : Nat} {A : Option Addr} {c : Nat} {l : List Tn} {at' ask : Nat} {failed : Bool} (h : Pz W g A c l at' ask failed) {b : Nat} (hb : g < b) (x y z u v r : Value) : Pz (set6 W b x y z u v r) g A c l at' ask failed :=
  h.keep (fun q hq => set6_block _ _ _ _ _ _ _ _ (by omega)) fun w0 hw k => by
    have hb' : w0.heap.size ≤ b := by omega
    unfold _root_.Go.Proofs.YtlilnbcklplmfaaGreatDoor.set6
    exact (((((k.setCell hb' _).setCell hb' _).setCell hb' _).setCell hb' _).setCell hb' _).setCell hb' _
theorem grow_setn {w W : World} {g b o : Nat} {v : Value} (h : w.grownBy W (some g)) (hb : w.heap.size ≤ b) : w.grownBy (W.setCell ⟨b, o, none⟩ v) (some g) :=
  ⟨h.os, h.tape, h.output, by simpa [World.setCell] using h.size, fun k hk hn => (Below.heap_setCell _ _ _ _ (by show k ≠ b; omega)).trans (h.block k hk hn)⟩
theorem grow_set6 {w W : World} {g b : Nat} (h : w.grownBy W (some g)) (hb : w.heap.size ≤ b) (x y z u v r : Value) : w.grownBy (set6 W b x y z u v r) (some g) := by
  unfold set6
  exact grow_setn (grow_setn (grow_setn (grow_setn (grow_setn (grow_setn h hb) hb) hb) hb) hb) hb
theorem Tr.set6 {W : World} {P Q : Nat → Prop} {n : Nat} {t : Ex} {y' : Value} (h : Tr W P n t y') {b : Nat} (hb : ¬ P b) (hq : ∀ b, P b → b < W.heap.size → Q b) (x y z u v r : Value) : Tr (set6 W b x y z u v r) Q n t y' :=
  h.keep (fun q hp _ => set6_block _ _ _ _ _ _ _ _ (fun e => hb (e ▸ hp))) hq

theorem Tr.bound {w : World} {P : Nat → Prop} {n : Nat} {t : Ex} {u : Value} (h : Tr w P n t u) : Tr w (fun b => P b ∧ b < w.heap.size) n t u := h.keep (fun _ _ _ => rfl) (fun _ hp hl => ⟨hp, hl⟩)

/-- No expression. -/
def zT : Ex := .mk ⟨#[]⟩ ⟨0, 0, ⟨#[]⟩⟩ ⟨#[]⟩ []
theorem zT_tr (W : World) (P : Nat → Prop) (n : Nat) : Tr W P n zT (.slice none 0 0) := by
  refine ⟨by decide, ?_⟩
  cases n with
  | zero => exact ⟨rfl, none, 0, rfl⟩
  | succ n => exact ⟨none, 0, rfl, by simp [zT, Ex.l, maxLen], fun j hj => absurd hj (by simp [zT, Ex.l])⟩
/-- What parsing a part comes to: the expression, of blocks of Q or new ones; the parser's state. -/
def Res (w : World) (g : Nat) (A : Option Addr) (c : Nat) (l : List Tn) (N : Nat) (Q : Nat → Prop) (t : Ex) (at' ask : Nat) (failed : Bool) (e : Ending) (w' : World) : Prop :=
  ∃ u, e = .returned (EVt t u) ∧ Tr w' (fun b => Q b ∨ w.heap.size ≤ b) N t u ∧ Pz w' g A c l at' ask failed ∧ w.grownBy w' (some g)
theorem Res.store {N : Nat} {w W : World} {g : Nat} {A : Option Addr} {c : Nat} {l : List Tn} {Q R : Nat → Prop} {t : Ex} {at' ask : Nat} {failed : Bool} {b : Nat} {u : Value} (hT : Tr W R N t u) (hP : Pz W g A c l at' ask failed) (hG : w.grownBy W (some g)) (hb : w.heap.size ≤ b) (hg : g < w.heap.size) (hR : ¬ R b) (hQ : ∀ x, R x → x < W.heap.size → Q x ∨ w.heap.size ≤ x) (x y z v r q : Value) :
    Res w g A c l N Q t at' ask failed (.returned (EVt t u)) (set6 W b x y z v r q) :=
  ⟨u, rfl, hT.set6 hR hQ _ _ _ _ _ _, hP.set6 (by omega) _ _ _ _ _ _, grow_set6 hG hb _ _ _ _ _ _⟩

set_option maxRecDepth 100000 in
set_option maxHeartbeats 1600000 in
theorem is_any (t : Tn) (wd : ByteArray) (w : World) :
    Calls Tryz.prog 140 #[.agg #[.int .i64 t.k, .string t.s], .string wd] w fun e w' => e = .returned (.bool (isB t wd)) ∧ Below w.heap.size w w' := by
  obtain ⟨k, s⟩ := t
  by_cases h1 : k = 1
  · subst h1
    go_enter Tryz.func140, Tryz.ntmps140
    go_wp2_with (fail)
    all_goals go_ret
    all_goals refine ⟨ret_bool ?_, (Below.refl _ _).alloc (Nat.le_refl _) _⟩
    all_goals simp [isB, *]
  · by_cases h4 : k = 4
    · subst h4
      go_enter Tryz.func140, Tryz.ntmps140
      go_wp2_with (fail)
      all_goals go_ret
      all_goals refine ⟨ret_bool ?_, (Below.refl _ _).alloc (Nat.le_refl _) _⟩
      all_goals simp [isB, *]
    · have b1 : (k == 1) = false := beq_eq_false_iff_ne.2 h1
      have b4 : (k == 4) = false := beq_eq_false_iff_ne.2 h4
      go_enter Tryz.func140, Tryz.ntmps140
      go_wp2_with (fail)
      all_goals go_ret
      all_goals refine ⟨ret_bool ?_, (Below.refl _ _).alloc (Nat.le_refl _) _⟩
      all_goals simp [isB, h1, h4]

/-- A slice reads as these words. -/
def Wds (W : World) (b : Nat) (ws : List ByteArray) : Prop := ∀ j (h : j < ws.length), W.cell? ⟨b, j, none⟩ = some (.string ws[j])
theorem Wds.below {W W' : World} {b : Nat} {ws : List ByteArray} (h : Wds W b ws) (hb : Below W.heap.size W W') : Wds W' b ws := fun j hj => (hb.cell (p := ⟨b, j, none⟩) (World.block_lt_of_cell? W _ (h j hj))).trans (h j hj)

set_option maxRecDepth 100000 in
set_option maxHeartbeats 4000000 in
theorem take_no (g : Nat) (A : Option Addr) (c : Nat) (l : List Tn) (at' ask : Nat) (failed : Bool) (b cap : Nat) (ws : List ByteArray) (t : Tn) (w : World) (hz : Pz w g A c l at' ask failed) (hl : l.length ≤ 100000) (ht : Nx l at' failed t) (hw : Wds w b ws) (hn : ws.length ≤ 1000) (hno : ∀ x ∈ ws, isB t x = false) :
    Calls Tryz.prog 259 #[.pointer (some ⟨g, 0, none⟩), .slice (some ⟨b, 0, none⟩) ws.length cap] w fun e w' => e = .returned (.string ⟨#[]⟩) ∧ Below w.heap.size w w' := by
  have HZ := Lib.hid (And.intro hz (And.intro ht hw))
  have HN := Lib.hid hno
  obtain ⟨n, HL⟩ : ∃ n, Hid (ws.length = n) := ⟨_, Lib.hid rfl⟩
  rw [HL.out] at hn ⊢
  clear hz ht hw hno
  go_enter Tryz.func259, Tryz.ntmps259
  go_wp2_with (go_at_call 278; refine (next_any g A c l at' ask failed _ HZ.out.1 hl t HZ.out.2.1).mono ?_; rintro e w1 ⟨rfl, hb1⟩; have HB1 := Lib.hid hb1; clear hb1)
  have HX : Hid (Below w.heap.size w (w1.alloc (.cells #[.int .i64 t.k, .string t.s] 89)) ∧ TnAt (w1.alloc (.cells #[.int .i64 t.k, .string t.s] 89)) ⟨w1.heap.size, 0, none⟩ t) := ⟨HB1.out.alloc HB1.out.size _, ⟨by simp [go_sem], by simp [go_sem]⟩⟩
  obtain ⟨w2, hw2⟩ : ∃ w2, w2 = w1.alloc (.cells #[.int .i64 t.k, .string t.s] 89) := ⟨_, rfl⟩
  rw [← hw2] at HX ⊢
  clear hw2
  go_loopw [12] (fun iv wr => ∃ j : Nat, j ≤ n ∧ iv = .int .i64 j ∧ Below w2.heap.size w2 wr) (fun iv _ => n - (intOf iv).toNat)
  case atStart => exact ⟨0, by omega, rfl, Below.refl _ _⟩
  case round =>
    obtain ⟨j, hj, rfl, hb⟩ := hrel
    have hbs := hb.size
    have hA := HX.out.2.keep (hb.block _ HX.out.2.lt)
    have k0 := hA.c0
    have k1 := hA.c1
    have hlt2 : w1.heap.size < wr.heap.size := hA.lt
    clear hA
    by_cases hlt : j < n
    · have hjl : j < ws.length := by rw [HL.out]; exact hlt
      have cw : wr.cell? ⟨b, j, none⟩ = some (.string ws[j]) := (((HZ.out.2.2).below HX.out.1).below hb) j hjl
      have HF := Lib.hid (HN.out _ (List.getElem_mem hjl))
      generalize ws[j] = y at cw HF
      go_wp2_with (go_at_call 140; refine (is_any t y _).mono ?_; rintro e w3 ⟨rfl, hb3⟩; rw [HF.out]; have HB3 := Lib.hid hb3; clear hb3)
      go_roundw
      case rel => exact ⟨j + 1, by omega, by go_num, hb.trans (HB3.out.mono hbs)⟩
      case measure => simp [intOf]; omega
    · obtain rfl : n = j := by omega
      go_wp2_with (fail)
      go_ret
      exact ⟨rfl, HX.out.1.trans (hb.mono HX.out.1.size)⟩

set_option maxRecDepth 100000 in
set_option maxHeartbeats 4000000 in
theorem take_yes (g : Nat) (A : Option Addr) (c : Nat) (l : List Tn) (at' ask : Nat) (failed : Bool) (b cap : Nat) (ws : List ByteArray) (t : Tn) (i : Nat) (wd : ByteArray) (w : World) (hz : Pz w g A c l at' ask failed) (hl : l.length ≤ 100000) (ha : at' ≤ 100000) (ht : Nx l at' failed t) (hw : Wds w b ws) (hn : ws.length ≤ 1000) (hi : ws[i]? = some wd) (hyes : isB t wd = true) (hno : ∀ j x, j < i → ws[j]? = some x → isB t x = false) :
    Calls Tryz.prog 259 #[.pointer (some ⟨g, 0, none⟩), .slice (some ⟨b, 0, none⟩) ws.length cap] w fun e w' => e = .returned (.string wd) ∧ Pz w' g A c l (at' + 1) ask failed ∧ w.grownBy w' (some g) := by
  have HZ := Lib.hid (And.intro hz (And.intro ht hw))
  have HN := Lib.hid hno
  have HI := Lib.hid (And.intro hi hyes)
  have hgl := hz.lt
  obtain ⟨n, HL⟩ : ∃ n, Hid (ws.length = n) := ⟨_, Lib.hid rfl⟩
  have hin : i < n := by rw [← HL.out]; exact (List.getElem?_eq_some_iff.1 hi).1
  rw [HL.out] at hn ⊢
  clear hz ht hw hno hi hyes
  go_enter Tryz.func259, Tryz.ntmps259
  go_wp2_with (go_at_call 278; refine (next_any g A c l at' ask failed _ HZ.out.1 hl t HZ.out.2.1).mono ?_; rintro e w1 ⟨rfl, hb1⟩; have HB1 := Lib.hid hb1; clear hb1)
  have HX : Hid (Below w.heap.size w (w1.alloc (.cells #[.int .i64 t.k, .string t.s] 89)) ∧ TnAt (w1.alloc (.cells #[.int .i64 t.k, .string t.s] 89)) ⟨w1.heap.size, 0, none⟩ t) := ⟨HB1.out.alloc HB1.out.size _, ⟨by simp [go_sem], by simp [go_sem]⟩⟩
  obtain ⟨w2, hw2⟩ : ∃ w2, w2 = w1.alloc (.cells #[.int .i64 t.k, .string t.s] 89) := ⟨_, rfl⟩
  rw [← hw2] at HX ⊢
  clear hw2
  go_loopw [12] (fun iv wr => ∃ j : Nat, j ≤ i ∧ iv = .int .i64 j ∧ Below w2.heap.size w2 wr) (fun iv _ => n - (intOf iv).toNat)
  case atStart => exact ⟨0, by omega, rfl, Below.refl _ _⟩
  case round =>
    obtain ⟨j, hj, rfl, hb⟩ := hrel
    have hbs := hb.size
    have hA := HX.out.2.keep (hb.block _ HX.out.2.lt)
    have k0 := hA.c0
    have k1 := hA.c1
    have hlt2 : w1.heap.size < wr.heap.size := hA.lt
    clear hA
    have hlt : j < n := by omega
    have hjl : j < ws.length := by rw [HL.out]; exact hlt
    have cw : wr.cell? ⟨b, j, none⟩ = some (.string ws[j]) := (((HZ.out.2.2).below HX.out.1).below hb) j hjl
    by_cases hji : j < i
    · have HF := Lib.hid (HN.out j _ hji (List.getElem?_eq_getElem hjl))
      generalize ws[j] = y at cw HF
      go_wp2_with (go_at_call 140; refine (is_any t y _).mono ?_; rintro e w3 ⟨rfl, hb3⟩; rw [HF.out]; have HB3 := Lib.hid hb3; clear hb3)
      go_roundw
      case rel => exact ⟨j + 1, by omega, by go_num, hb.trans (HB3.out.mono hbs)⟩
      case measure => simp [intOf]; omega
    · obtain rfl : i = j := by omega
      have HW : Hid (ws[i] = wd) := Option.some.inj ((List.getElem?_eq_getElem hjl).symm.trans HI.out.1)
      rw [HW.out] at cw
      have HF := Lib.hid HI.out.2
      go_wp2_with (go_at_call 140; refine (is_any t wd _).mono ?_; rintro e w3 ⟨rfl, hb3⟩; rw [HF.out]; have HPz := Lib.hid (((HZ.out.1.below HX.out.1).below hb).below hb3); have d0 := HPz.out.c0; have d1 := HPz.out.c1; have df := HPz.out.fz 1; have HB3 : Hid (Below w.heap.size w w3) := (HX.out.1.trans (hb.mono HX.out.1.size)).trans (hb3.mono (by have := HX.out.1.size; omega)); clear hb3)
      go_ret
      exact ⟨rfl, HPz.out.goto (at' + 1), grow_trans (grow_below HB3.out _) (grow_set _ _ _ _)⟩

set_option maxRecDepth 100000 in
set_option maxHeartbeats 4000000 in
theorem checked_yes {N : Nat} (g : Nat) (A : Option Addr) (c : Nat) (l : List Tn) (at' ask : Nat) (failed : Bool) (w : World) (hz : Pz w g A c l at' ask failed) (Q : Nat → Prop) (t : Ex) (u : Value) (ht : Tr w Q N t u) (hm : mayT t = true) :
    Calls Tryz.prog 262 #[.pointer (some ⟨g, 0, none⟩), EVt t u] w (Res w g A c l N Q t at' ask failed) := by
  have HT := Lib.hid ht
  have HF := Lib.hid hm
  have HZ := Lib.hid hz
  have hgl := hz.lt
  have HM := Lib.hid (fun W h => emay_any Q N t u W h)
  obtain ⟨B, q, rfl, hn⟩ := ht.form
  obtain ⟨p, HN⟩ : ∃ p, Hid (t.l.length = p) := ⟨_, Lib.hid rfl⟩
  clear ht hm hz
  unfold EVt at HM ⊢
  rw [HN.out] at hn HM HT ⊢
  go_enter Tryz.func262, Tryz.ntmps262
  go_wp2_with (go_at_call 35; refine (HM.out _ ((HT.out.below ((Below.refl _ _).alloc (Nat.le_refl _) _)).below ((Below.refl _ _).alloc (Nat.le_refl _) _))).mono ?_; rintro e w1 ⟨rfl, hb1⟩; rw [HF.out]; have HB1 : Hid (Below w.heap.size w w1) := (((Below.refl w.heap.size w).alloc (Nat.le_refl _) _).alloc (by simp) _).trans (hb1.mono (by simp; omega)); have hc1 := (bcell hb1).1; have hf1 := (bcell hb1).2; have hy1 := hb1.size; (try simp at hy1); have hz1_0 : w.heap.size < w1.heap.size := (by omega); have hz1_1 : w.heap.size + 1 < w1.heap.size := (by omega))
  refine bodyPost_ret (v := .agg #[.string t.op, .int .i64 t.x.k, .int .i64 t.x.i, .string t.x.s, .string t.s, .slice B p q]) (by simp [results, Tryz.results262, go_sem, *]) rfl ?_
  exact Res.store (R := fun b => Q b ∧ b < w.heap.size) (HT.out.bound.below HB1.out) (HZ.out.below HB1.out) (grow_below HB1.out _) (by omega) hgl (fun h => absurd h.2 (by omega)) (fun x h _ => .inl h.1) _ _ _ _ _ _

end Go.Proofs.YtlilnbcklplmfaaGreatDoor
