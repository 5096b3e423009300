import Derived.Test.YtmgcmiflbjhakaaGreatDoorW08
import Derived.Shelf.Strings.SlTrimAscii
import Derived.Laws.AppendOwn
import Derived.Laws.OwnMore

/- Rows of tokens in memory; Cut. -/
namespace Go.Proofs.YtmgcmiflbjhakaaGreatDoor
open Go.RowKit Go.Lib

theorem ascii_two : ∀ (j : Nat) (b : UInt8), (⟨#[32, 10]⟩ : ByteArray).data.toList[j]? = some b → b.toNat < 128 := by
  intro j b h
  match j with
  | 0 => simp at h; subst h; decide
  | 1 => simp at h; subst h; decide
  | j + 2 => simp at h
theorem blanks_any (s : ByteArray) (w : World) :
    Calls Tryz.prog 140 #[.string s, .string ⟨#[32, 10]⟩] w fun e w' => e = .returned (.string ⟨(skip s.data.toList).toArray⟩) ∧ Below w.heap.size w w' :=
  Any.strings_TrimLeft_laid Tryz.lays161 (by kernel_rfl) s ⟨#[32, 10]⟩ w (by decide) ascii_two
set_option maxRecDepth 100000 in
theorem behind_any (s : ByteArray) (w : World) :
    Calls Tryz.prog 80 #[.string s] w fun e w' => e = .returned (.string ⟨(skip s.data.toList).toArray⟩) ∧ Below w.heap.size w w' := by
  go_enter Tryz.func80, Tryz.ntmps80
  go_wp2_with (go_at_call 140; refine (blanks_any s _).mono ?_; rintro e w1 ⟨rfl, hb1⟩)
  go_ret
  exact ⟨rfl, hb1⟩
theorem clone_any (s : ByteArray) (w : World) (hs : s.size ≤ 100000) :
    Calls Tryz.prog 82 #[.string s] w fun e w' => e = .returned (.string s) ∧ Below w.heap.size w w' := by
  go_enter Tryz.func82, Tryz.ntmps82
  go_wp2_with (go_at_call 145; refine (Tryz.stringslite_Clone s _ (by omega)).mono ?_; rintro e w1 ⟨rfl, hb1⟩)
  go_ret
  exact ⟨rfl, hb1⟩

def Tk.cells (x : Tk) : List Value := [.int .i64 x.k, .string ⟨x.s.toArray⟩]
def tcells (l : List Tk) : List Value := l.flatMap Tk.cells
theorem tcells_len (l : List Tk) : (tcells l).length = l.length * 2 := by
  induction l with
  | nil => rfl
  | cons x l ih => simp only [tcells, List.flatMap_cons, List.length_append] at ih ⊢; rw [ih]; simp [Tk.cells]; omega
theorem tcells_snoc (l : List Tk) (x : Tk) : tcells (l ++ [x]) = tcells l ++ x.cells := by simp [tcells]
theorem tcells_app (l r : List Tk) : tcells (l ++ r) = tcells l ++ tcells r := by simp [tcells]
theorem tcells_one (l : List Tk) : ∀ u ∈ tcells l, u.oneCell' = true := by
  intro u hu
  simp only [tcells, List.mem_flatMap, Tk.cells] at hu
  obtain ⟨x, _, hx⟩ := hu
  simp at hx
  rcases hx with rfl | rfl <;> rfl
theorem infoTok : (Tryz.prog.info? 48).map (fun i => (i.zero, i.size, i.bytes)) = some (some (.agg #[.int .i64 0, .string ⟨#[]⟩]), 2, 24) := by kernel_rfl
theorem tnew_cells {W : World} {t : TypeId} {x : Tk} : ∀ j u, x.cells[j]? = some u → (W.alloc (.cells #[.int .i64 x.k, .string ⟨x.s.toArray⟩] t)).cell? ((⟨W.heap.size, 0, none⟩ : Addr).add j) = some u := by
  intro j u h
  match j with
  | 0 => simp [Tk.cells] at h; subst h; simp [Addr.add, go_sem]
  | 1 => simp [Tk.cells] at h; subst h; simp [Addr.add, go_sem]
  | j + 2 => simp [Tk.cells] at h
/-- A row of tokens of the call's own. -/
def OwnT (W : World) (B : Nat) (v : Value) (l : List Tk) : Prop := W.ownsRow B 48 2 v l.length (tcells l)
theorem OwnT.below {W W' : World} {B C : Nat} {v : Value} {l : List Tk} (h : OwnT W B v l) (hb : Below C W W') (hC : W.heap.size ≤ C) : OwnT W' B v l :=
  World.ownsRow.kept (row := none) h ⟨hb.os, hb.tape, hb.output, hb.size, fun q hq _ => hb.block q (by omega)⟩ (by cases h : Value.ownBlock v with | none => exact .inl rfl | some _ => exact .inr (by simp))
theorem OwnT.alloc {W : World} {B : Nat} {v : Value} {l : List Tk} (h : OwnT W B v l) (o : Obj) : OwnT (W.alloc o) B v l := World.ownsRow.alloc h o
theorem OwnT.set {W : World} {B b o : Nat} {v u : Value} {l : List Tk} (h : OwnT W B v l) (hb : ∀ g, v.ownBlock = some g → g < b) : OwnT (W.setCell ⟨b, o, none⟩ u) B v l :=
  World.ownsRow.kept (row := some b) h ⟨rfl, rfl, rfl, by simp [World.setCell], fun q _ hq => Below.heap_setCell _ _ _ _ (fun e => hq (by simp [e]))⟩ (by
    cases hv : v.ownBlock with
    | none => exact .inl rfl
    | some g => refine .inr fun e => ?_; injection e with e; have := hb g hv; omega)
theorem OwnT.mono {W : World} {B B' : Nat} {v : Value} {l : List Tk} (h : OwnT W B v l) (hB : B' ≤ B) : OwnT W B' v l := by
  refine ⟨h.1, ?_⟩
  rcases h.2 with h' | ⟨g, cap, cur, e, hb, r⟩
  · exact .inl h'
  · exact .inr ⟨g, cap, cur, e, Nat.le_trans hB hb, r⟩
theorem OwnT.form {W : World} {B : Nat} {v : Value} {l : List Tk} (h : OwnT W B v l) : ∃ A cap, v = .slice A l.length cap := by
  rcases h.2 with ⟨rfl, h0⟩ | ⟨g, cap, cur, rfl, _⟩
  · exact ⟨none, 0, by rw [h0]⟩
  · exact ⟨_, _, rfl⟩
theorem skip_skip (l : List UInt8) : skip (skip l) = skip l := by
  unfold skip
  induction l with
  | nil => rfl
  | cons c l ih =>
    rw [List.dropWhile_cons]
    split
    · exact ih
    · rename_i h
      rw [List.dropWhile_cons, if_neg h]
theorem cut_skip (l : List UInt8) : cut (skip l) = cut l := by
  cases h : fst (skip l) with
  | none =>
    by_cases hn : skip l = []
    · rw [cut_end hn, cut_end (by rw [skip_skip]; exact hn)]
    · rw [cut_none h hn, cut_none (by rw [skip_skip]; exact h) (by rw [skip_skip]; exact hn)]
  | some y =>
    obtain ⟨t, n⟩ := y
    rw [cut_more h, cut_more (l := skip l) (by rw [skip_skip]; exact h), skip_skip]
/-- A text's tokens, if there are no more than may be. -/
def cutR (l : List UInt8) : Option (List Tk) := match cut l with
  | none => none
  | some ts => if ts.length ≤ 400 then some ts else none
theorem cutR_none {l : List UInt8} (h : cut l = none) : cutR l = none := by unfold cutR; rw [h]
theorem cutR_some {l : List UInt8} {ts : List Tk} (h : cut l = some ts) (hl : ts.length ≤ 400) : cutR l = some ts := by unfold cutR; rw [h]; simp [hl]
theorem cutR_many {l : List UInt8} {m : List Tk} {o : Option (List Tk)} {d : List Tk} (h : cut l = (o.map (m ++ ·)).map (d ++ ·)) (hl : 400 < d.length + m.length) : cutR l = none := by
  unfold cutR
  rw [h]
  cases o with
  | none => rfl
  | some x =>
    show (if (d ++ (m ++ x)).length ≤ 400 then _ else _) = _
    rw [if_neg (by simp; omega)]
def CutR (l : List UInt8) (B : Nat) (e : Ending) (W : World) : Prop :=
  (∃ v ts, cutR l = some ts ∧ e = .returned (.tuple #[v, .int .i64 0]) ∧ OwnT W B v ts) ∨ (cutR l = none ∧ e = .returned (.tuple #[.slice none 0 0, .int .i64 2]))
theorem map_map_one {o : Option (List Tk)} {d : List Tk} {t : Tk} : (o.map (t :: ·)).map (d ++ ·) = o.map ((d ++ [t]) ++ ·) := by cases o <;> simp

set_option maxRecDepth 100000 in
set_option maxHeartbeats 3200000 in
theorem cut_any (s : ByteArray) (w : World) (hs : s.size ≤ 100000) (hl : LibE w) :
    Calls Tryz.prog 46 #[.string s] w fun e w' => CutR s.data.toList w.heap.size e w' ∧ Below w.heap.size w w' := by
  obtain ⟨i0, hi, hz0, hz1, hz2⟩ := info_parts infoTok
  have HL := Lib.hid hl
  clear hl
  obtain ⟨S0, hS0⟩ : ∃ S : ByteArray, S = ⟨(skip s.data.toList).toArray⟩ := ⟨_, rfl⟩
  have HB0 := Lib.hid (fun (W : World) => hS0 ▸ behind_any s W)
  have hs0 : S0.size ≤ 100000 := by
    have h1 := skip_len s.data.toList
    rw [← Lib.size_eq] at h1
    rw [hS0]
    simp [ByteArray.size]
    omega
  have HS0 : Hid (skip S0.data.toList = S0.data.toList ∧ cut s.data.toList = (cut S0.data.toList).map (([] : List Tk) ++ ·)) := by
    rw [hS0]
    refine ⟨skip_skip _, ?_⟩
    show _ = Option.map _ (cut (skip s.data.toList))
    rw [cut_skip]
    cases cut s.data.toList <;> rfl
  clear hS0
  go_enter Tryz.func46, Tryz.ntmps46
  go_wp2_with (go_at_call 80; refine (HB0.out _).mono ?_; rintro e w1 ⟨rfl, hb1⟩; have HB1 := Lib.hid hb1; clear hb1)
  go_loopw [0, 4, 5, 6] (fun sv v _ _ wr => ∃ (S : ByteArray) (d : List Tk), sv = .string S ∧ S.size ≤ 100000 ∧ d.length ≤ 400 ∧ OwnT wr w.heap.size v d ∧ Below w.heap.size w wr ∧ Hid (skip S.data.toList = S.data.toList ∧ cut s.data.toList = (cut S.data.toList).map (d ++ ·))) (fun sv _ _ _ _ => match sv with | .string S => S.size | _ => 0)
  case atStart => exact ⟨S0, [], rfl, hs0, by simp, World.ownsRow_nil _ _ _ _, HB1.out, HS0.out⟩
  case round =>
    obtain ⟨S, d, rfl, hS, hd, hown, hb, HC⟩ := hrel
    have HO := Lib.hid hown
    obtain ⟨A, cap, rfl⟩ := hown.form
    clear hown
    have hbs := hb.size
    by_cases h0 : 0 < S.size
    · have hne := nonempty_of' h0
      have hne2 : ¬ S.toList = [] := fun h => by rw [h] at hne; cases hne
      have hne3 : S.data.toList ≠ [] := fun h => hne2 (by rw [toList_data]; exact h)
      cases hf : fst S.data.toList with
      | none =>
        have HR := Lib.hid (show cutR s.data.toList = none from cutR_none (by rw [HC.out.2, cut_none (by rw [HC.out.1]; exact hf) (by rw [HC.out.1]; exact hne3)]; rfl))
        have HF := Lib.hid (fun (W : World) (h : LibE W) => (show Calls Tryz.prog 81 #[.string S] W fun e w' => e = .returned (.tuple #[.agg #[.int .i64 0, .string ⟨#[]⟩], .int .i64 0]) ∧ Below W.heap.size W w' from by
          have := first_any S W h0 hS h
          rwa [hf] at this))
        clear hf hne3
        go_wp2_with (go_at_call 81; refine (HF.out _ (HL.out.keep hb (Nat.le_refl _))).mono ?_; rintro e w2 ⟨rfl, hb2⟩)
        go_ret2
        exact ⟨.inr ⟨HR.out, rfl⟩, (hb.trans (hb2.mono hbs)).alloc (by have := hb2.size; omega) _⟩
      | some y =>
        obtain ⟨t, n⟩ := y
        obtain ⟨hn1, hn2⟩ := fst_pos hf
        rw [← Lib.size_eq] at hn2
        have HM := Lib.hid (show cut s.data.toList = ((cut (S.data.toList.drop n)).map (t :: ·)).map (d ++ ·) by
          rw [HC.out.2, cut_more (l := S.data.toList) (by rw [HC.out.1]; exact hf), HC.out.1])
        have hts : (⟨t.s.toArray⟩ : ByteArray).size ≤ 100000 := fst_size hf (by rw [← Lib.size_eq]; exact hS)
        obtain ⟨ts, hts'⟩ : ∃ ts : ByteArray, ts = ⟨t.s.toArray⟩ := ⟨_, rfl⟩
        rw [← hts'] at hts
        have HF := Lib.hid (fun (W : World) (h : LibE W) => (show Calls Tryz.prog 81 #[.string S] W fun e w' => e = .returned (.tuple #[.agg #[.int .i64 t.k, .string ts], .int .i64 n]) ∧ Below W.heap.size W w' from by
          have := first_any S W h0 hS h
          rw [hf] at this
          rw [hts']
          exact this))
        have HTS := Lib.hid hts'
        have hnz : ((n : Int) == 0) = false := beq_eq_false_iff_ne.2 (by omega)
        have hnz2 : ¬ (n : Int) = 0 := by omega
        have hnle : 0 ≤ (n : Int) ∧ (n : Int) ≤ (S.size : Int) := by omega
        clear hf hne3 hts'
        by_cases h400 : d.length = 400
        · have HR := Lib.hid (show cutR s.data.toList = none from by
            have h := HM.out
            exact cutR_many (m := [t]) (o := cut (S.data.toList.drop n)) (d := d) h (by simp; omega))
          have h4 : (d.length : Int) = 400 := by omega
          go_wp2_with (go_at_call 81; refine (HF.out _ (HL.out.keep hb (Nat.le_refl _))).mono ?_; rintro e w2 ⟨rfl, hb2⟩)
          go_ret2
          exact ⟨.inr ⟨HR.out, rfl⟩, (hb.trans (hb2.mono hbs)).alloc (by have := hb2.size; omega) _⟩
        · have h4 : ¬ (d.length : Int) = 400 := by omega
          obtain ⟨S2, hS2⟩ : ∃ S2 : ByteArray, S2 = ⟨(skip (S.data.toList.drop n)).toArray⟩ := ⟨_, rfl⟩
          have HBB := Lib.hid (fun (W : World) => (show Calls Tryz.prog 80 #[.string (S.extract n S.size)] W fun e w' => e = .returned (.string S2) ∧ Below W.heap.size W w' from by
            have := behind_any (S.extract n S.size) W
            rw [rest_list] at this
            rw [hS2]; exact this))
          have hs2 : S2.size < S.size := by
            have h1 := skip_len (S.data.toList.drop n)
            rw [List.length_drop, ← Lib.size_eq] at h1
            rw [hS2]
            simp only [ByteArray.size, List.size_toArray] at h1 ⊢
            have : S.data.size = S.size := rfl
            omega
          have HN : Hid (skip S2.data.toList = S2.data.toList ∧ cut s.data.toList = (cut S2.data.toList).map ((d ++ [t]) ++ ·)) := by
            rw [hS2]
            refine ⟨skip_skip _, ?_⟩
            show _ = Option.map _ (cut (skip (S.data.toList.drop n)))
            rw [cut_skip, HM.out, map_map_one]
          clear hS2
          go_wp2_with (first
            | (go_at_call 81; refine (HF.out _ (HL.out.keep hb (Nat.le_refl _))).mono ?_; rintro e w2 ⟨rfl, hb2⟩; have HO2 := Lib.hid (HO.out.below hb2 (Nat.le_refl _)); have HB2 := Lib.hid (hb.trans (hb2.mono hbs)); have hs21 := hb2.size; clear hb2)
            | (go_at_call 82; refine (clone_any _ _ hts).mono ?_; rintro e w3 ⟨rfl, hb3⟩; have t0 : w3.cell? ⟨w2.heap.size, 0, none⟩ = some (.int .i64 t.k) := (hb3.cell (p := ⟨w2.heap.size, 0, none⟩) (by simp)).trans (by simp [go_sem]); have t1 : w3.cell? ⟨w2.heap.size, 1, none⟩ = some (.string ts) := (hb3.cell (p := ⟨w2.heap.size, 1, none⟩) (by simp)).trans (by simp [go_sem]); have tf : ∀ o, w3.frozen? ⟨w2.heap.size, o, none⟩ = false := (fun o => (hb3.frozen (p := ⟨w2.heap.size, o, none⟩) (by simp)).trans (by simp [go_sem])); have HO3 := Lib.hid (((HO2.out.alloc _).below hb3 (Nat.le_refl _)).set (b := w2.heap.size) (o := 1) (u := .string ts) (fun g hg => (HO2.out.lt g hg).2)); have hs32 := hb3.size; (try simp at hs32); have HB3 := Lib.hid (cSet1 (show w.heap.size ≤ w2.heap.size by omega) ((HB2.out.alloc (by omega) (.cells #[.int .i64 t.k, .string ts] 48)).trans (hb3.mono (by simp; omega))) 1 (.string ts)); clear hb3)
            | (go_at_call 80; refine (HBB.out _).mono ?_; rintro e w5 ⟨rfl, hb5⟩)
            | (at_builtin; refine wpList_append_own _ rfl _ _ 49 rfl w.heap.size 48 i0 _ 2 24 Tryz.underlying49 hi hz0 hz1 hz2 rfl (by decide) _ _ _ rfl (World.ownsRow.alloc HO3.out _) ⟨w3.heap.size, 0, none⟩ 1 1 [.int .i64 t.k, .string ts] rfl rfl ?c1 ?c2 ?c3 ?c4 ?c5 ?_))
          case c1 =>
            intro j u h
            match j with
            | 0 => simp at h; subst h; simp [Addr.add, go_sem]
            | 1 => simp at h; subst h; simp [Addr.add, go_sem]
            | j + 2 => simp at h
          case c2 => intro u hu; simp at hu; rcases hu with rfl | rfl <;> rfl
          case c3 => unfold maxLen; omega
          case c4 => omega
          case c5 => simp; omega
          intro v' w4 hown' hgrow _
          have HO4 : Hid (OwnT w4 w.heap.size v' (d ++ [t])) := by
            show w4.ownsRow _ _ 2 v' (d ++ [t]).length _
            rw [tcells_snoc, List.length_append]
            have e : t.cells = [.int .i64 t.k, .string ts] := by rw [HTS.out]; rfl
            rw [e]
            exact hown'
          have hz := hgrow.size
          have HB4 : Hid (Below w.heap.size w w4) := (HB3.out.alloc (by simp; omega) _).grown hgrow (by simp; omega) fun g hg => (HO3.out.lt g hg).1
          clear hown' hgrow t0 t1 tf
          simp at hz
          go_wp2_with (go_at_call 80; refine (HBB.out _).mono ?_; rintro e w5 ⟨rfl, hb5⟩)
          go_roundw
          case rel => exact ⟨S2, d ++ [t], rfl, by omega, by simp; omega, HO4.out.below hb5 (Nat.le_refl _), HB4.out.trans (hb5.mono HB4.out.size), HN.out⟩
          case measure => exact hs2
    · have hemp : S.data.toList = [] := List.length_eq_zero_iff.1 (by rw [← Lib.size_eq]; omega)
      have hne : S.toList = [] := by rw [toList_data]; exact hemp
      have hne2 : S.toList.isEmpty = true := by rw [hne]; rfl
      have HR := Lib.hid (show cutR s.data.toList = some d from cutR_some (by
        rw [HC.out.2, hemp, cut_end rfl]
        simp) hd)
      clear hemp
      go_wp2
      go_ret2
      exact ⟨.inl ⟨_, _, HR.out, rfl, HO.out⟩, hb⟩
end Go.Proofs.YtmgcmiflbjhakaaGreatDoor

/- Rows of tokens: Same; the law's few; the chapter's examples (awake). -/
namespace Go.Proofs.YtmgcmiflbjhakaaGreatDoor
open Go.RowKit Go.Lib

theorem add_blk (a : Addr) (n : Nat) : (a.add n).block = a.block := by unfold Addr.add; split <;> rfl
/-- Token x lies at this address. -/
structure TkAt (W : World) (a : Addr) (x : Tk) : Prop where
  k : W.cell? a = some (.int .i64 x.k)
  s : W.cell? ⟨a.block, a.off + 1, none⟩ = some (.string ⟨x.s.toArray⟩)
theorem TkAt.keep {W W' : World} {a : Addr} {x : Tk} {B : Nat} (h : TkAt W a x) (hb : Below B W W') (hB : a.block < B) : TkAt W' a x :=
  ⟨(hb.cell hB).trans h.k, (hb.cell (p := ⟨a.block, _, none⟩) hB).trans h.s⟩
theorem TkAt.det {W W' : World} {a : Addr} {x : Tk} (h : TkAt W a x) (hb : Below W.drew.heap.size W.drew W') (hB : a.block < W.heap.size) : TkAt W' a x :=
  ⟨(hb.cell (p := a) hB).trans h.k, (hb.cell (p := ⟨a.block, _, none⟩) hB).trans h.s⟩
/-- The slice of n elements at A reads as these tokens; it lies below block B. -/
def Toks (W : World) (B : Nat) (A : Option Addr) (n : Nat) (l : List Tk) : Prop :=
  l.length = n ∧ ∀ j (h : j < l.length), ∃ a, A = some a ∧ TkAt W (a.add (j * 2)) l[j] ∧ a.block < B
theorem Toks.keep {W W' : World} {B : Nat} {A : Option Addr} {n : Nat} {l : List Tk} (h : Toks W B A n l) (hb : Below B W W') : Toks W' B A n l :=
  ⟨h.1, fun j hj => by
    obtain ⟨a, e, h1, h2⟩ := h.2 j hj
    exact ⟨a, e, h1.keep hb (by rw [add_blk]; exact h2), h2⟩⟩
theorem Toks.more {W : World} {B B' : Nat} {A : Option Addr} {n : Nat} {l : List Tk} (h : Toks W B A n l) (hB : B ≤ B') : Toks W B' A n l :=
  ⟨h.1, fun j hj => by
    obtain ⟨a, e, h1, h2⟩ := h.2 j hj
    exact ⟨a, e, h1, by omega⟩⟩
theorem Toks.later {W W' : World} {A : Option Addr} {n : Nat} {l : List Tk} (h : Toks W W.heap.size A n l) (hb : Below W.heap.size W W') : Toks W' W'.heap.size A n l := (h.keep hb).more hb.size
theorem Toks.at_ {W : World} {B : Nat} {A : Option Addr} {n : Nat} {l : List Tk} (h : Toks W B A n l) {k : Nat} (hk : k < n) : ∃ a x, A = some a ∧ l[k]? = some x ∧ TkAt W (a.add (k * 2)) x ∧ a.block < B := by
  obtain ⟨h1, h2⟩ := h
  obtain ⟨a, e, h3, h4⟩ := h2 k (by omega)
  exact ⟨a, l[k]'(by omega), e, List.getElem?_eq_getElem _, h3, h4⟩
theorem tcells_at (l : List Tk) : ∀ j (h : j < l.length), (tcells l)[j * 2]? = some (.int .i64 l[j].k) ∧ (tcells l)[j * 2 + 1]? = some (.string ⟨l[j].s.toArray⟩) := by
  induction l with
  | nil => intro j h; simp at h
  | cons x l ih =>
    intro j h
    cases j with
    | zero => simp [tcells, Tk.cells]
    | succ j =>
      have := ih j (by simpa using h)
      have e : tcells (x :: l) = x.cells ++ tcells l := by simp [tcells]
      have hl : x.cells.length = 2 := rfl
      rw [e]
      refine ⟨?_, ?_⟩
      · rw [List.getElem?_append_right (by rw [hl]; omega), hl, show (j + 1) * 2 - 2 = j * 2 by omega]; exact this.1
      · rw [List.getElem?_append_right (by rw [hl]; omega), hl, show (j + 1) * 2 + 1 - 2 = j * 2 + 1 by omega]; exact this.2
theorem OwnT.toks {W : World} {B : Nat} {v : Value} {l : List Tk} (h : OwnT W B v l) : ∃ A cap, v = .slice A l.length cap ∧ Toks W W.heap.size A l.length l := by
  have h' := h
  rcases h.2 with ⟨rfl, h0⟩ | ⟨g, cap, cur, rfl, hB, hg, hc, hm, hs, ht⟩
  · exact ⟨none, 0, by rw [h0], rfl, fun j hj => absurd hj (by omega)⟩
  · refine ⟨_, cap, rfl, rfl, fun j hj => ⟨_, rfl, ?_, (Array.getElem?_eq_some_iff.1 hg).1⟩⟩
    have hadd : (⟨g, 0, none⟩ : Addr).add (j * 2) = ⟨g, j * 2, none⟩ := by unfold Addr.add; split <;> simp_all
    obtain ⟨c0, c1⟩ := tcells_at l j hj
    rw [hadd]
    exact ⟨(World.ownsRow.cellAt h' (j * 2) (by omega)).trans c0, (World.ownsRow.cellAt h' (j * 2 + 1) (by omega)).trans c1⟩
theorem tk_eq {x y : Tk} (h1 : x.k = y.k) (h2 : x.s = y.s) : x = y := by cases x; cases y; simp only at h1 h2; rw [h1, h2]
def sameT (x y : Tk) : Bool := decide (x.k = y.k) && decide (x.s = y.s)
theorem sameT_iff (x y : Tk) : sameT x y = true ↔ x = y := by
  unfold sameT
  simp only [Bool.and_eq_true, decide_eq_true_eq]
  exact ⟨fun ⟨h1, h2⟩ => tk_eq h1 h2, fun h => by rw [h]; exact ⟨rfl, rfl⟩⟩
def sameTL : List Tk → List Tk → Bool
  | [], [] => true
  | x :: l, y :: m => sameT x y && sameTL l m
  | _, _ => false
theorem sameTL_iff : ∀ (l m : List Tk), sameTL l m = true ↔ l = m
  | [], [] => by simp [sameTL]
  | [], _ :: _ => by simp [sameTL]
  | _ :: _, [] => by simp [sameTL]
  | x :: l, y :: m => by
    simp only [sameTL, Bool.and_eq_true, sameT_iff, sameTL_iff l m, List.cons.injEq]
theorem sameTL_self (l : List Tk) : sameTL l l = true := (sameTL_iff l l).2 rfl
theorem sameTL_ne {l m : List Tk} (h : l ≠ m) : sameTL l m = false := by
  cases hs : sameTL l m with
  | false => rfl
  | true => exact absurd ((sameTL_iff l m).1 hs) h
theorem tdrop_at {l : List Tk} {k : Nat} {x : Tk} (h : l[k]? = some x) : l.drop k = x :: l.drop (k + 1) := by
  have hlt : k < l.length := (List.getElem?_eq_some_iff.1 h).1
  rw [List.drop_eq_getElem_cons hlt]
  rw [List.getElem?_eq_getElem hlt] at h
  rw [Option.some.inj h]
theorem ttake_at {l : List Tk} {k : Nat} {x : Tk} (h : l[k]? = some x) : l.take (k + 1) = l.take k ++ [x] := by rw [List.take_add_one, h]; rfl

/-- A text of which no more is looked at. -/
def few3S (s : ByteArray) : ByteArray := if s.size ≤ 1200 then s else s.extract 0 1200
theorem few3_size (s : ByteArray) : (few3S s).size ≤ 1200 := by
  unfold few3S
  split
  · assumption
  · rw [ByteArray.size_extract]; omega
theorem cut_ok (s : ByteArray) (w : World) (hs : s.size ≤ 100000) (hl : LibE w) (ts : List Tk) (h : cutR s.data.toList = some ts) :
    Calls Tryz.prog 46 #[.string s] w fun e w' => ∃ v, e = .returned (.tuple #[v, .int .i64 0]) ∧ Hid (OwnT w' w.heap.size v ts) ∧ Below w.heap.size w w' :=
  (cut_any s w hs hl).mono fun e w' ⟨hc, hb⟩ => by
    rcases hc with ⟨v, ts', h1, h2, h3⟩ | ⟨h1, _⟩
    · rw [h] at h1
      obtain rfl := Option.some.inj h1
      exact ⟨v, h2, h3, hb⟩
    · rw [h] at h1; cases h1
theorem cut_no (s : ByteArray) (w : World) (hs : s.size ≤ 100000) (hl : LibE w) (h : cutR s.data.toList = none) :
    Calls Tryz.prog 46 #[.string s] w fun e w' => e = .returned (.tuple #[.slice none 0 0, .int .i64 2]) ∧ Below w.heap.size w w' :=
  (cut_any s w hs hl).mono fun e w' ⟨hc, hb⟩ => by
    rcases hc with ⟨v, ts', h1, h2, h3⟩ | ⟨_, h2⟩
    · rw [h] at h1; cases h1
    · exact ⟨h2, hb⟩
theorem cut_ok' (s : ByteArray) (w : World) (hs : s.size ≤ 100000) (hl : LibE w) (ts : List Tk) (h : cutR s.data.toList = some ts) (n : Nat) (hn : ts.length = n) :
    Calls Tryz.prog 46 #[.string s] w fun e w' => ∃ A cap, e = .returned (.tuple #[.slice A n cap, .int .i64 0]) ∧ Hid (Toks w' w'.heap.size A n ts) ∧ Below w.heap.size w w' :=
  (cut_ok s w hs hl ts h).mono fun e w' ⟨v, h1, h2, hb⟩ => by
    obtain ⟨A, cap, rfl, ht⟩ := h2.out.toks
    subst hn
    exact ⟨A, cap, h1, ht, hb⟩
end Go.Proofs.YtmgcmiflbjhakaaGreatDoor

/- The chapter's examples (awake). -/
namespace Go.Proofs.YtmgcmiflbjhakaaGreatDoor
open Go.RowKit Go.Lib

theorem fst_a3 : fst (skip [97, 61, 49]) = some (⟨1, [97]⟩, 1) := by rfl
theorem fst_a2 : fst (skip [61, 49]) = some (⟨4, [61]⟩, 1) := by rfl
theorem fst_a1 : fst (skip [49]) = some (⟨2, [49]⟩, 1) := by rfl
theorem cut_a : cutR [97, 61, 49] = some [⟨1, [97]⟩, ⟨4, [61]⟩, ⟨2, [49]⟩] := by
  refine cutR_some ?_ (by simp)
  rw [show cut [97, 61, 49] = (cut [61, 49]).map ((⟨1, [97]⟩ : Tk) :: ·) from cut_more (l := [97, 61, 49]) (n := 1) fst_a3]
  rw [show cut [61, 49] = (cut [49]).map ((⟨4, [61]⟩ : Tk) :: ·) from cut_more (l := [61, 49]) (n := 1) fst_a2]
  rw [show cut [49] = (cut []).map ((⟨2, [49]⟩ : Tk) :: ·) from cut_more (l := [49]) (n := 1) fst_a1]
  rw [cut_end rfl]
  rfl
theorem fst_b7 : fst (skip [39, 105, 116, 39, 39, 115, 39]) = some (⟨3, [105, 116, 39, 115]⟩, 7) := by 
  have h : mayB 2 0 ⟨[105, 116, 39, 115].toArray⟩ = true := by decide
  show fst [39, 105, 116, 39, 39, 115, 39] = _
  simp [fst, qscan]
  exact h
theorem cut_b : cutR [39, 105, 116, 39, 39, 115, 39] = some [⟨3, [105, 116, 39, 115]⟩] := by
  refine cutR_some ?_ (by simp)
  rw [show cut [39, 105, 116, 39, 39, 115, 39] = (cut []).map ((⟨3, [105, 116, 39, 115]⟩ : Tk) :: ·) from cut_more (l := [39, 105, 116, 39, 39, 115, 39]) (n := 7) fst_b7]
  rw [cut_end rfl]
  rfl
theorem fst_c2 : fst (skip [49, 97]) = some (⟨2, [49]⟩, 1) := by rfl
theorem fst_c1 : fst (skip [97]) = some (⟨1, [97]⟩, 1) := by rfl
theorem cut_c : cutR [49, 97] = some [⟨2, [49]⟩, ⟨1, [97]⟩] := by
  refine cutR_some ?_ (by simp)
  rw [show cut [49, 97] = (cut [97]).map ((⟨2, [49]⟩ : Tk) :: ·) from cut_more (l := [49, 97]) (n := 1) fst_c2]
  rw [show cut [97] = (cut []).map ((⟨1, [97]⟩ : Tk) :: ·) from cut_more (l := [97]) (n := 1) fst_c1]
  rw [cut_end rfl]
  rfl
theorem cut_d : cutR [59] = none := cutR_none (cut_none (l := [59]) rfl (by decide))
/-- Tokens that the call has just laid. -/
theorem lit_toks {W : World} {t : TypeId} (l : List Tk) (cs : Array Value) (hc : cs = (tcells l).toArray) : Toks (W.alloc (.cells cs t)) (W.heap.size + 1) (some ⟨W.heap.size, 0, none⟩) l.length l := by
  subst hc
  refine ⟨rfl, fun j hj => ⟨_, rfl, ?_, by simp⟩⟩
  have hadd : (⟨W.heap.size, 0, none⟩ : Addr).add (j * 2) = ⟨W.heap.size, j * 2, none⟩ := by unfold Addr.add; split <;> simp_all
  obtain ⟨c0, c1⟩ := tcells_at l j hj
  rw [hadd]
  have key : ∀ k, (W.alloc (.cells (tcells l).toArray t)).cell? ⟨W.heap.size, k, none⟩ = (tcells l)[k]? := fun k => by
    rw [cell_of_row _ W.heap.size k _ t (0, 0) (heap_alloc_new W _)]
    simp
  exact ⟨(key _).trans c0, (key _).trans c1⟩
theorem Toks.alloc {W : World} {A : Option Addr} {n : Nat} {l : List Tk} (h : Toks W W.heap.size A n l) (o : Obj) : Toks (W.alloc o) (W.alloc o).heap.size A n l := h.later ((Below.refl _ _).alloc (Nat.le_refl _) o)
end Go.Proofs.YtmgcmiflbjhakaaGreatDoor

/- May a token be. -/
namespace Go.Proofs.YtmgcmiflbjhakaaGreatDoor
open Go.RowKit Go.Lib

/-- May a token be? -/
def tmayB (k : Int) (s : ByteArray) : Bool :=
  if k = 3 then mayB 2 0 s else if k = 1 then kmay letB parB 16 s.data.toList else if k = 2 then kmay digB digB 19 s.data.toList else if k = 4 then kmay sigB nonB 1 s.data.toList else false
theorem vmay_any (k i : Int) (s : ByteArray) (w : World) :
    Calls Tryz.prog 93 #[.agg #[.int .i64 k, .int .i64 i, .string s]] w fun e w' => e = .returned (.bool (mayB k i s)) ∧ Below w.heap.size w w' := by
  cases h : mayB k i s with
  | true => exact may_t k i s w h
  | false => exact may_f k i s w h
set_option maxRecDepth 100000 in
theorem meant_any (k : Int) (s : ByteArray) (w : World) :
    Calls Tryz.prog 258 #[.agg #[.int .i64 k, .string s]] w fun e w' => e = .returned (.agg #[.int .i64 2, .int .i64 0, .string s]) ∧ Below w.heap.size w w' := by
  go_enter Tryz.func258, Tryz.ntmps258
  go_wp2
  refine bodyPost_ret (v := .agg #[.int .i64 2, .int .i64 0, .string s]) ?_ rfl ⟨rfl, ?_⟩
  · (simp [results, Tryz.results258, go_sem, *]; done)
  repeat (first | (with_reducible exact Below.refl _ _) | ((with_reducible refine cSet1 ?_ ?_ _ _); (· ((try simp) <;> omega))) | (with_reducible refine Below.drew ?_) | ((with_reducible refine cAlloc ?_ ?_ _); (· ((try simp) <;> omega))) | ((with_reducible refine cOn (by assumption) ?_ ?_); (· ((try simp) <;> omega))))

set_option maxRecDepth 100000 in
set_option maxHeartbeats 800000 in
theorem tmay_3 (s : ByteArray) (w : World) :
    Calls Tryz.prog 226 #[.agg #[.int .i64 3, .string s]] w fun e w' => e = .returned (.bool (mayB 2 0 s)) ∧ Below w.heap.size w w' := by
  go_enter Tryz.func226, Tryz.ntmps226
  go_wp2_with (first
    | (go_at_call 258; refine (meant_any _ _ _).mono ?_; rintro e w1 ⟨rfl, hb1⟩; have hc1 := (bcell hb1).1; have hf1 := (bcell hb1).2; have hy1 := hb1.size; (try simp at hy1); have hz1_0 : w.heap.size < w1.heap.size := (by omega))
    | (go_at_call 93; refine (vmay_any _ _ _ _).mono ?_; rintro e w2 ⟨rfl, hb2⟩; have hc2 := (bcell hb2).1; have hf2 := (bcell hb2).2; have hy2 := hb2.size; (try simp at hy2); have hz2_0 : w.heap.size < w2.heap.size := (by omega)))
  go_ret
  refine ⟨rfl, ?_⟩
  repeat (first | (with_reducible exact Below.refl _ _) | ((with_reducible refine cSet3 ?_ ?_ _ _ _); (· ((try simp) <;> omega))) | (with_reducible refine Below.drew ?_) | ((with_reducible refine cAlloc ?_ ?_ _); (· ((try simp) <;> omega))) | ((with_reducible refine cOn (by assumption) ?_ ?_); (· ((try simp) <;> omega))))

/-- The token's box, while the kinds are gone through. -/
structure TB (w : World) (k : Int) (s : ByteArray) (W : World) : Prop where
  below : Below w.heap.size w W
  c0 : W.cell? ⟨w.heap.size, 0, none⟩ = some (.int .i64 k)
  c1 : W.cell? ⟨w.heap.size, 1, none⟩ = some (.string s)
theorem TB.lt {w W : World} {k : Int} {s : ByteArray} (h : TB w k s W) : w.heap.size < W.heap.size := World.block_lt_of_cell? _ _ h.c0
theorem TB.later {w W W' : World} {k : Int} {s : ByteArray} (h : TB w k s W) (hb : Below W.heap.size W W') : TB w k s W' :=
  ⟨h.below.trans (hb.mono h.below.size), (hb.cell (p := ⟨_, _, none⟩) h.lt).trans h.c0, (hb.cell (p := ⟨_, _, none⟩) h.lt).trans h.c1⟩
theorem TB.alloc {w W : World} {k : Int} {s : ByteArray} (h : TB w k s W) (o : Obj) : TB w k s (W.alloc o) := h.later ((Below.refl _ _).alloc (Nat.le_refl _) o)
theorem TB.start (w : World) (k : Int) (s : ByteArray) (t : TypeId) : TB w k s (w.alloc (.cells #[.int .i64 k, .string s] t)) :=
  ⟨(Below.refl _ _).alloc (Nat.le_refl _) _, by simp [go_sem], by simp [go_sem]⟩

set_option maxRecDepth 100000 in
set_option maxHeartbeats 1600000 in
theorem tmay_k0 (s : ByteArray) (w : World) (hs : s.size ≤ 100000) :
    Calls Tryz.prog 226 #[.agg #[.int .i64 1, .string s]] w fun e w' => e = .returned (.bool (kmay letB parB 16 s.data.toList)) ∧ Below w.heap.size w w' := by
  go_enter Tryz.func226, Tryz.ntmps226
  go_wp2_with (go_at_call 142; refine (kinds_any _).mono ?_; rintro e w1 ⟨rfl, hb1⟩; have HW0 := Lib.hid ((TB.start w 1 s _).later hb1); clear hb1)
  go_loopw [12] (fun i wr => ∃ n : Nat, n ≤ 0 ∧ i = .int .i64 n ∧ TB w 1 s wr) (fun i _ => 3 - (intOf i).toNat)
  case atStart => exact ⟨0, by omega, rfl, HW0.out⟩
  case round =>
    obtain ⟨n, hn, rfl, hW⟩ := hrel
    have HW := Lib.hid hW
    clear hW HW0
    obtain ⟨wo, hwo⟩ : ∃ wo : World, wo = wr := ⟨_, rfl⟩
    rw [← hwo] at HW ⊢
    clear hwo
    by_cases hn0 : n = 0
    · subst hn0
      have r0 := HW.out.c0
      have r1 := HW.out.c1
      have rl := HW.out.lt
      have ix := kix0
      have rn : ¬ w.heap.size = wo.heap.size := by omega
      go_wp2_with (go_at_call 144; refine (kmay_any 1 16 _ _ letB parB cls_letter cls_inWord s _ hs (by omega)).mono ?_; rintro e w2 ⟨rfl, hb2⟩)
      go_ret
      exact ⟨rfl, (HW.out.alloc _).below.trans (hb2.mono (HW.out.alloc _).below.size)⟩
    · skip
      omega

set_option maxRecDepth 100000 in
set_option maxHeartbeats 1600000 in
theorem tmay_k1 (s : ByteArray) (w : World) (hs : s.size ≤ 100000) :
    Calls Tryz.prog 226 #[.agg #[.int .i64 2, .string s]] w fun e w' => e = .returned (.bool (kmay digB digB 19 s.data.toList)) ∧ Below w.heap.size w w' := by
  go_enter Tryz.func226, Tryz.ntmps226
  go_wp2_with (go_at_call 142; refine (kinds_any _).mono ?_; rintro e w1 ⟨rfl, hb1⟩; have HW0 := Lib.hid ((TB.start w 2 s _).later hb1); clear hb1)
  go_loopw [12] (fun i wr => ∃ n : Nat, n ≤ 1 ∧ i = .int .i64 n ∧ TB w 2 s wr) (fun i _ => 3 - (intOf i).toNat)
  case atStart => exact ⟨0, by omega, rfl, HW0.out⟩
  case round =>
    obtain ⟨n, hn, rfl, hW⟩ := hrel
    have HW := Lib.hid hW
    clear hW HW0
    obtain ⟨wo, hwo⟩ : ∃ wo : World, wo = wr := ⟨_, rfl⟩
    rw [← hwo] at HW ⊢
    clear hwo
    by_cases hn0 : n = 0
    · subst hn0
      have r0 := HW.out.c0
      have r1 := HW.out.c1
      have rl := HW.out.lt
      have ix := kix0
      have rn : ¬ w.heap.size = wo.heap.size := by omega
      go_wp2
      go_roundw
      case rel => exact ⟨0 + 1, by omega, by go_num, HW.out.alloc _⟩
      case measure => simp [intOf]; try omega
    · skip
      by_cases hn1 : n = 1
      · subst hn1
        have r0 := HW.out.c0
        have r1 := HW.out.c1
        have rl := HW.out.lt
        have ix := kix1
        have rn : ¬ w.heap.size = wo.heap.size := by omega
        go_wp2_with (go_at_call 144; refine (kmay_any 2 19 _ _ digB digB cls_digit cls_digit s _ hs (by omega)).mono ?_; rintro e w2 ⟨rfl, hb2⟩)
        go_ret
        exact ⟨rfl, (HW.out.alloc _).below.trans (hb2.mono (HW.out.alloc _).below.size)⟩
      · skip
        omega

set_option maxRecDepth 100000 in
set_option maxHeartbeats 1600000 in
theorem tmay_k2 (s : ByteArray) (w : World) (hs : s.size ≤ 100000) :
    Calls Tryz.prog 226 #[.agg #[.int .i64 4, .string s]] w fun e w' => e = .returned (.bool (kmay sigB nonB 1 s.data.toList)) ∧ Below w.heap.size w w' := by
  go_enter Tryz.func226, Tryz.ntmps226
  go_wp2_with (go_at_call 142; refine (kinds_any _).mono ?_; rintro e w1 ⟨rfl, hb1⟩; have HW0 := Lib.hid ((TB.start w 4 s _).later hb1); clear hb1)
  go_loopw [12] (fun i wr => ∃ n : Nat, n ≤ 2 ∧ i = .int .i64 n ∧ TB w 4 s wr) (fun i _ => 3 - (intOf i).toNat)
  case atStart => exact ⟨0, by omega, rfl, HW0.out⟩
  case round =>
    obtain ⟨n, hn, rfl, hW⟩ := hrel
    have HW := Lib.hid hW
    clear hW HW0
    obtain ⟨wo, hwo⟩ : ∃ wo : World, wo = wr := ⟨_, rfl⟩
    rw [← hwo] at HW ⊢
    clear hwo
    by_cases hn0 : n = 0
    · subst hn0
      have r0 := HW.out.c0
      have r1 := HW.out.c1
      have rl := HW.out.lt
      have ix := kix0
      have rn : ¬ w.heap.size = wo.heap.size := by omega
      go_wp2
      go_roundw
      case rel => exact ⟨0 + 1, by omega, by go_num, HW.out.alloc _⟩
      case measure => simp [intOf]; try omega
    · skip
      by_cases hn1 : n = 1
      · subst hn1
        have r0 := HW.out.c0
        have r1 := HW.out.c1
        have rl := HW.out.lt
        have ix := kix1
        have rn : ¬ w.heap.size = wo.heap.size := by omega
        go_wp2
        go_roundw
        case rel => exact ⟨1 + 1, by omega, by go_num, HW.out.alloc _⟩
        case measure => simp [intOf]; try omega
      · skip
        by_cases hn2 : n = 2
        · subst hn2
          have r0 := HW.out.c0
          have r1 := HW.out.c1
          have rl := HW.out.lt
          have ix := kix2
          have rn : ¬ w.heap.size = wo.heap.size := by omega
          go_wp2_with (go_at_call 144; refine (kmay_any 4 1 _ _ sigB nonB cls_isSign cls_none s _ hs (by omega)).mono ?_; rintro e w2 ⟨rfl, hb2⟩)
          go_ret
          exact ⟨rfl, (HW.out.alloc _).below.trans (hb2.mono (HW.out.alloc _).below.size)⟩
        · skip
          omega

set_option maxRecDepth 100000 in
set_option maxHeartbeats 1600000 in
theorem tmay_k3 (k : Int) (s : ByteArray) (w : World) (hs : s.size ≤ 100000) (hk0 : ¬ k = 1) (hk1 : ¬ k = 2) (hk2 : ¬ k = 4) (hk3 : ¬ k = 3) :
    Calls Tryz.prog 226 #[.agg #[.int .i64 k, .string s]] w fun e w' => e = .returned (.bool false) ∧ Below w.heap.size w w' := by
  have n0 : ¬ (1 : Int) = k := fun h => hk0 h.symm
  have n1 : ¬ (2 : Int) = k := fun h => hk1 h.symm
  have n2 : ¬ (4 : Int) = k := fun h => hk2 h.symm
  go_enter Tryz.func226, Tryz.ntmps226
  go_wp2_with (go_at_call 142; refine (kinds_any _).mono ?_; rintro e w1 ⟨rfl, hb1⟩; have HW0 := Lib.hid ((TB.start w k s _).later hb1); clear hb1)
  go_loopw [12] (fun i wr => ∃ n : Nat, n ≤ 3 ∧ i = .int .i64 n ∧ TB w k s wr) (fun i _ => 3 - (intOf i).toNat)
  case atStart => exact ⟨0, by omega, rfl, HW0.out⟩
  case round =>
    obtain ⟨n, hn, rfl, hW⟩ := hrel
    have HW := Lib.hid hW
    clear hW HW0
    obtain ⟨wo, hwo⟩ : ∃ wo : World, wo = wr := ⟨_, rfl⟩
    rw [← hwo] at HW ⊢
    clear hwo
    by_cases hn0 : n = 0
    · subst hn0
      have r0 := HW.out.c0
      have r1 := HW.out.c1
      have rl := HW.out.lt
      have ix := kix0
      have rn : ¬ w.heap.size = wo.heap.size := by omega
      go_wp2
      go_roundw
      case rel => exact ⟨0 + 1, by omega, by go_num, HW.out.alloc _⟩
      case measure => simp [intOf]; try omega
    · skip
      by_cases hn1 : n = 1
      · subst hn1
        have r0 := HW.out.c0
        have r1 := HW.out.c1
        have rl := HW.out.lt
        have ix := kix1
        have rn : ¬ w.heap.size = wo.heap.size := by omega
        go_wp2
        go_roundw
        case rel => exact ⟨1 + 1, by omega, by go_num, HW.out.alloc _⟩
        case measure => simp [intOf]; try omega
      · skip
        by_cases hn2 : n = 2
        · subst hn2
          have r0 := HW.out.c0
          have r1 := HW.out.c1
          have rl := HW.out.lt
          have ix := kix2
          have rn : ¬ w.heap.size = wo.heap.size := by omega
          go_wp2
          go_roundw
          case rel => exact ⟨2 + 1, by omega, by go_num, HW.out.alloc _⟩
          case measure => simp [intOf]; try omega
        · skip
          obtain rfl : n = 3 := by omega
          go_wp2
          go_ret
          exact ⟨rfl, HW.out.below⟩

theorem tmay_any (k : Int) (s : ByteArray) (w : World) (hs : s.size ≤ 100000) :
    Calls Tryz.prog 226 #[.agg #[.int .i64 k, .string s]] w fun e w' => e = .returned (.bool (tmayB k s)) ∧ Below w.heap.size w w' := by
  unfold tmayB
  by_cases h3 : k = 3
  · rw [if_pos h3]; subst h3; exact tmay_3 s w
  · rw [if_neg h3]
    by_cases h1 : k = 1
    · rw [if_pos h1]; subst h1; exact tmay_k0 s w hs
    · rw [if_neg h1]
      by_cases h2 : k = 2
      · rw [if_pos h2]; subst h2; exact tmay_k1 s w hs
      · rw [if_neg h2]
        by_cases h4 : k = 4
        · rw [if_pos h4]; subst h4; exact tmay_k2 s w hs
        · rw [if_neg h4]; exact tmay_k3 k s w hs h1 h2 h4 h3
end Go.Proofs.YtmgcmiflbjhakaaGreatDoor
