import Derived.Test.YtnahejljelbbgaaGreatDoorLe
import Derived.Shelf.Strings.SlTrimAscii
import Derived.Laws.AppendOwn
import Derived.Laws.OwnMore
/- Rows of tokens in memory; Cut. -/
namespace Go.Proofs.YtnahejljelbbgaaGreatDoor
open Go.RowKit Go.Lib

theorem ascii_two : ∀ (j : Nat) (b : UInt8), (⟨#[32, 10]⟩ : ByteArray).data.toList[j]? = some b → b.toNat < 128 := by
  intro j b h
  match j with
  | 0 => simp at h; subst h; decide
  | 1 => simp at h; subst h; decide
  | j + 2 => simp at h
theorem blanks_any (s : ByteArray) (w : World) :
    Calls Tryz.prog 35 #[.string s, .string ⟨#[32, 10]⟩] w fun e w' => e = .returned (.string ⟨(skip s.data.toList).toArray⟩) ∧ Below w.heap.size w w' :=
  Any.strings_TrimLeft_laid Tryz.lays161 (by kernel_rfl) s ⟨#[32, 10]⟩ w (by decide) ascii_two
set_option maxRecDepth 100000 in
theorem behind_any (s : ByteArray) (w : World) :
    Calls Tryz.prog 21 #[.string s] w fun e w' => e = .returned (.string ⟨(skip s.data.toList).toArray⟩) ∧ Below w.heap.size w w' := by
  go_enter Tryz.func21, Tryz.ntmps21
  go_wp2_with (go_at_call 35; refine (blanks_any s _).mono ?_; rintro e w1 ⟨rfl, hb1⟩)
  go_ret
  exact ⟨rfl, hb1⟩
theorem clone_any (s : ByteArray) (w : World) (hs : s.size ≤ 100000) :
    Calls Tryz.prog 23 #[.string s] w fun e w' => e = .returned (.string s) ∧ Below w.heap.size w w' := by
  go_enter Tryz.func23, Tryz.ntmps23
  go_wp2_with (go_at_call 38; refine (Tryz.stringslite_Clone s _ (by omega)).mono ?_; rintro e w1 ⟨rfl, hb1⟩)
  go_ret
  exact ⟨rfl, hb1⟩

def Tk.cells (x : Tk) : List Value := [.int .i64 x.k, .string ⟨x.s.toArray⟩]
def tcells (l : List Tk) : List Value := l.flatMap Tk.cells
theorem tcells_len (l : List Tk) : (tcells l).length = l.length * 2 := by
  induction l with
  | nil => rfl
  | cons x l ih => simp only [tcells, List.flatMap_cons, List.length_append] at ih ⊢; rw [ih]; simp [Tk.cells]; omega
theorem tcells_snoc (l : List Tk) (x : Tk) : tcells (l ++ [x]) = tcells l ++ x.cells := by simp [tcells]
theorem tcells_app (l r : List Tk) : tcells (l ++ r) = tcells l ++ tcells r := by simp [tcells]
theorem tcells_one (l : List Tk) : ∀ u ∈ tcells l, u.oneCell' = true := by
  intro u hu
  simp only [tcells, List.mem_flatMap, Tk.cells] at hu
  obtain ⟨x, _, hx⟩ := hu
  simp at hx
  rcases hx with rfl | rfl <;> rfl
theorem infoTok : (Tryz.prog.info? 37).map (fun i => (i.zero, i.size, i.bytes)) = some (some (.agg #[.int .i64 0, .string ⟨#[]⟩]), 2, 24) := by kernel_rfl
theorem tnew_cells {W : World} {t : TypeId} {x : Tk} : ∀ j u, x.cells[j]? = some u → (W.alloc (.cells #[.int .i64 x.k, .string ⟨x.s.toArray⟩] t)).cell? ((⟨W.heap.size, 0, none⟩ : Addr).add j) = some u := by
  intro j u h
  match j with
  | 0 => simp [Tk.cells] at h; subst h; simp [Addr.add, go_sem]
  | 1 => simp [Tk.cells] at h; subst h; simp [Addr.add, go_sem]
  | j + 2 => simp [Tk.cells] at h
/-- A row of tokens of the call's own. -/
def OwnT (W : World) (B : Nat) (v : Value) (l : List Tk) : Prop := W.ownsRow B 37 2 v l.length (tcells l)
theorem OwnT.below {W W' : World} {B C : Nat} {v : Value} {l : List Tk} (h : OwnT W B v l) (hb : Below C W W') (hC : W.heap.size ≤ C) : OwnT W' B v l :=
  World.ownsRow.kept (row := none) h ⟨hb.os, hb.tape, hb.output, hb.size, fun q hq _ => hb.block q (by omega)⟩ (by cases h : Value.ownBlock v with | none => exact .inl rfl | some _ => exact .inr (by simp))
theorem OwnT.alloc {W : World} {B : Nat} {v : Value} {l : List Tk} (h : OwnT W B v l) (o : Obj) : OwnT (W.alloc o) B v l := World.ownsRow.alloc h o
theorem OwnT.set {W : World} {B b o : Nat} {v u : Value} {l : List Tk} (h : OwnT W B v l) (hb : ∀ g, v.ownBlock = some g → g < b) : OwnT (W.setCell ⟨b, o, none⟩ u) B v l :=
  World.ownsRow.kept (row := some b) h ⟨rfl, rfl, rfl, by simp [World.setCell], fun q _ hq => Below.heap_setCell _ _ _ _ (fun e => hq (by simp [e]))⟩ (by
    cases hv : v.ownBlock with
    | none => exact .inl rfl
    | some g => refine .inr fun e => ?_; injection e with e; have := hb g hv; omega)
theorem OwnT.mono {W : World} {B B' : Nat} {v : Value} {l : List Tk} (h : OwnT W B v l) (hB : B' ≤ B) : OwnT W B' v l := by
  refine ⟨h.1, ?_⟩
  rcases h.2 with h' | ⟨g, cap, cur, e, hb, r⟩
  · exact .inl h'
  · exact .inr ⟨g, cap, cur, e, Nat.le_trans hB hb, r⟩
theorem OwnT.form {W : World} {B : Nat} {v : Value} {l : List Tk} (h : OwnT W B v l) : ∃ A cap, v = .slice A l.length cap := by
  rcases h.2 with ⟨rfl, h0⟩ | ⟨g, cap, cur, rfl, _⟩
  · exact ⟨none, 0, by rw [h0]⟩
  · exact ⟨_, _, rfl⟩
theorem skip_skip (l : List UInt8) : skip (skip l) = skip l := by
  unfold skip
  induction l with
  | nil => rfl
  | cons c l ih =>
    rw [List.dropWhile_cons]
    split
    · exact ih
    · rename_i h
      rw [List.dropWhile_cons, if_neg h]
theorem cut_skip (l : List UInt8) : cut (skip l) = cut l := by
  cases h : fst (skip l) with
  | none =>
    by_cases hn : skip l = []
    · rw [cut_end hn, cut_end (by rw [skip_skip]; exact hn)]
    · rw [cut_none h hn, cut_none (by rw [skip_skip]; exact h) (by rw [skip_skip]; exact hn)]
  | some y =>
    obtain ⟨t, n⟩ := y
    rw [cut_more h, cut_more (l := skip l) (by rw [skip_skip]; exact h), skip_skip]
/-- A text's tokens, if there are no more than may be. -/
def cutR (l : List UInt8) : Option (List Tk) := match cut l with
  | none => none
  | some ts => if ts.length ≤ 400 then some ts else none
theorem cutR_none {l : List UInt8} (h : cut l = none) : cutR l = none := by unfold cutR; rw [h]
theorem cutR_some {l : List UInt8} {ts : List Tk} (h : cut l = some ts) (hl : ts.length ≤ 400) : cutR l = some ts := by unfold cutR; rw [h]; simp [hl]
theorem cutR_many {l : List UInt8} {m : List Tk} {o : Option (List Tk)} {d : List Tk} (h : cut l = (o.map (m ++ ·)).map (d ++ ·)) (hl : 400 < d.length + m.length) : cutR l = none := by
  unfold cutR
  rw [h]
  cases o with
  | none => rfl
  | some x =>
    show (if (d ++ (m ++ x)).length ≤ 400 then _ else _) = _
    rw [if_neg (by simp; omega)]
def CutR (l : List UInt8) (B : Nat) (e : Ending) (W : World) : Prop :=
  (∃ v ts, cutR l = some ts ∧ e = .returned (.tuple #[v, .int .i64 0]) ∧ OwnT W B v ts) ∨ (cutR l = none ∧ e = .returned (.tuple #[.slice none 0 0, .int .i64 2]))
theorem map_map_one {o : Option (List Tk)} {d : List Tk} {t : Tk} : (o.map (t :: ·)).map (d ++ ·) = o.map ((d ++ [t]) ++ ·) := by cases o <;> simp

set_option maxRecDepth 100000 in
set_option maxHeartbeats 3200000 in
theorem cut_any (s : ByteArray) (w : World) (hs : s.size ≤ 100000) (hl : LibE w) :
    Calls Tryz.prog 9 #[.string s] w fun e w' => CutR s.data.toList w.heap.size e w' ∧ Below w.heap.size w w' := by
  obtain ⟨i0, hi, hz0, hz1, hz2⟩ := info_parts infoTok
  have HL := Lib.hid hl
  clear hl
  obtain ⟨S0, hS0⟩ : ∃ S : ByteArray, S = ⟨(skip s.data.toList).toArray⟩ := ⟨_, rfl⟩
  have HB0 := Lib.hid (fun (W : World) => hS0 ▸ behind_any s W)
  have hs0 : S0.size ≤ 100000 := by
    have h1 := skip_len s.data.toList
    rw [← Lib.size_eq] at h1
    rw [hS0]
    simp [ByteArray.size]
    omega
  have HS0 : Hid (skip S0.data.toList = S0.data.toList ∧ cut s.data.toList = (cut S0.data.toList).map (([] : List Tk) ++ ·)) := by
    rw [hS0]
    refine ⟨skip_skip _, ?_⟩
    show _ = Option.map _ (cut (skip s.data.toList))
    rw [cut_skip]
    cases cut s.data.toList <;> rfl
  clear hS0
  go_enter Tryz.func9, Tryz.ntmps9
  go_wp2_with (go_at_call 21; refine (HB0.out _).mono ?_; rintro e w1 ⟨rfl, hb1⟩; have HB1 := Lib.hid hb1; clear hb1)
  go_loopw [0, 4, 5, 6] (fun sv v _ _ wr => ∃ (S : ByteArray) (d : List Tk), sv = .string S ∧ S.size ≤ 100000 ∧ d.length ≤ 400 ∧ OwnT wr w.heap.size v d ∧ Below w.heap.size w wr ∧ Hid (skip S.data.toList = S.data.toList ∧ cut s.data.toList = (cut S.data.toList).map (d ++ ·))) (fun sv _ _ _ _ => match sv with | .string S => S.size | _ => 0)
  case atStart => exact ⟨S0, [], rfl, hs0, by simp, World.ownsRow_nil _ _ _ _, HB1.out, HS0.out⟩
  case round =>
    obtain ⟨S, d, rfl, hS, hd, hown, hb, HC⟩ := hrel
    have HO := Lib.hid hown
    obtain ⟨A, cap, rfl⟩ := hown.form
    clear hown
    have hbs := hb.size
    by_cases h0 : 0 < S.size
    · have hne := nonempty_of' h0
      have hne2 : ¬ S.toList = [] := fun h => by rw [h] at hne; cases hne
      have hne3 : S.data.toList ≠ [] := fun h => hne2 (by rw [toList_data]; exact h)
      cases hf : fst S.data.toList with
      | none =>
        have HR := Lib.hid (show cutR s.data.toList = none from cutR_none (by rw [HC.out.2, cut_none (by rw [HC.out.1]; exact hf) (by rw [HC.out.1]; exact hne3)]; rfl))
        have HF := Lib.hid (fun (W : World) (h : LibE W) => (show Calls Tryz.prog 22 #[.string S] W fun e w' => e = .returned (.tuple #[.agg #[.int .i64 0, .string ⟨#[]⟩], .int .i64 0]) ∧ Below W.heap.size W w' from by
          have := first_any S W h0 hS h
          rwa [hf] at this))
        clear hf hne3
        go_wp2_with (go_at_call 22; refine (HF.out _ (HL.out.keep hb (Nat.le_refl _))).mono ?_; rintro e w2 ⟨rfl, hb2⟩)
        go_ret2
        exact ⟨.inr ⟨HR.out, rfl⟩, (hb.trans (hb2.mono hbs)).alloc (by have := hb2.size; omega) _⟩
      | some y =>
        obtain ⟨t, n⟩ := y
        obtain ⟨hn1, hn2⟩ := fst_pos hf
        rw [← Lib.size_eq] at hn2
        have HM := Lib.hid (show cut s.data.toList = ((cut (S.data.toList.drop n)).map (t :: ·)).map (d ++ ·) by
          rw [HC.out.2, cut_more (l := S.data.toList) (by rw [HC.out.1]; exact hf), HC.out.1])
        have hts : (⟨t.s.toArray⟩ : ByteArray).size ≤ 100000 := fst_size hf (by rw [← Lib.size_eq]; exact hS)
        obtain ⟨ts, hts'⟩ : ∃ ts : ByteArray, ts = ⟨t.s.toArray⟩ := ⟨_, rfl⟩
        rw [← hts'] at hts
        have HF := Lib.hid (fun (W : World) (h : LibE W) => (show Calls Tryz.prog 22 #[.string S] W fun e w' => e = .returned (.tuple #[.agg #[.int .i64 t.k, .string ts], .int .i64 n]) ∧ Below W.heap.size W w' from by
          have := first_any S W h0 hS h
          rw [hf] at this
          rw [hts']
          exact this))
        have HTS := Lib.hid hts'
        have hnz : ((n : Int) == 0) = false := beq_eq_false_iff_ne.2 (by omega)
        have hnz2 : ¬ (n : Int) = 0 := by omega
        have hnle : 0 ≤ (n : Int) ∧ (n : Int) ≤ (S.size : Int) := by omega
        clear hf hne3 hts'
        by_cases h400 : d.length = 400
        · have HR := Lib.hid (show cutR s.data.toList = none from by
            have h := HM.out
            exact cutR_many (m := [t]) (o := cut (S.data.toList.drop n)) (d := d) h (by simp; omega))
          have h4 : (d.length : Int) = 400 := by omega
          go_wp2_with (go_at_call 22; refine (HF.out _ (HL.out.keep hb (Nat.le_refl _))).mono ?_; rintro e w2 ⟨rfl, hb2⟩)
          go_ret2
          exact ⟨.inr ⟨HR.out, rfl⟩, (hb.trans (hb2.mono hbs)).alloc (by have := hb2.size; omega) _⟩
        · have h4 : ¬ (d.length : Int) = 400 := by omega
          obtain ⟨S2, hS2⟩ : ∃ S2 : ByteArray, S2 = ⟨(skip (S.data.toList.drop n)).toArray⟩ := ⟨_, rfl⟩
          have HBB := Lib.hid (fun (W : World) => (show Calls Tryz.prog 21 #[.string (S.extract n S.size)] W fun e w' => e = .returned (.string S2) ∧ Below W.heap.size W w' from by
            have := behind_any (S.extract n S.size) W
            rw [rest_list] at this
            rw [hS2]; exact this))
          have hs2 : S2.size < S.size := by
            have h1 := skip_len (S.data.toList.drop n)
            rw [List.length_drop, ← Lib.size_eq] at h1
            rw [hS2]
            simp only [ByteArray.size, List.size_toArray] at h1 ⊢
            have : S.data.size = S.size := rfl
            omega
          have HN : Hid (skip S2.data.toList = S2.data.toList ∧ cut s.data.toList = (cut S2.data.toList).map ((d ++ [t]) ++ ·)) := by
            rw [hS2]
            refine ⟨skip_skip _, ?_⟩
            show _ = Option.map _ (cut (skip (S.data.toList.drop n)))
            rw [cut_skip, HM.out, map_map_one]
          clear hS2
          go_wp2_with (first
            | (go_at_call 22; refine (HF.out _ (HL.out.keep hb (Nat.le_refl _))).mono ?_; rintro e w2 ⟨rfl, hb2⟩; have HO2 := Lib.hid (HO.out.below hb2 (Nat.le_refl _)); have HB2 := Lib.hid (hb.trans (hb2.mono hbs)); have hs21 := hb2.size; clear hb2)
            | (go_at_call 23; refine (clone_any _ _ hts).mono ?_; rintro e w3 ⟨rfl, hb3⟩; have t0 : w3.cell? ⟨w2.heap.size, 0, none⟩ = some (.int .i64 t.k) := (hb3.cell (p := ⟨w2.heap.size, 0, none⟩) (by simp)).trans (by simp [go_sem]); have t1 : w3.cell? ⟨w2.heap.size, 1, none⟩ = some (.string ts) := (hb3.cell (p := ⟨w2.heap.size, 1, none⟩) (by simp)).trans (by simp [go_sem]); have tf : ∀ o, w3.frozen? ⟨w2.heap.size, o, none⟩ = false := (fun o => (hb3.frozen (p := ⟨w2.heap.size, o, none⟩) (by simp)).trans (by simp [go_sem])); have HO3 := Lib.hid (((HO2.out.alloc _).below hb3 (Nat.le_refl _)).set (b := w2.heap.size) (o := 1) (u := .string ts) (fun g hg => (HO2.out.lt g hg).2)); have hs32 := hb3.size; (try simp at hs32); have HB3 := Lib.hid (cSet1 (show w.heap.size ≤ w2.heap.size by omega) ((HB2.out.alloc (by omega) (.cells #[.int .i64 t.k, .string ts] 37)).trans (hb3.mono (by simp; omega))) 1 (.string ts)); clear hb3)
            | (go_at_call 21; refine (HBB.out _).mono ?_; rintro e w5 ⟨rfl, hb5⟩)
            | (at_builtin; refine wpList_append_own _ rfl _ _ 22 rfl w.heap.size 37 i0 _ 2 24 Tryz.underlying22 hi hz0 hz1 hz2 rfl (by decide) _ _ _ rfl (World.ownsRow.alloc HO3.out _) ⟨w3.heap.size, 0, none⟩ 1 1 [.int .i64 t.k, .string ts] rfl rfl ?c1 ?c2 ?c3 ?c4 ?c5 ?_))
          case c1 =>
            intro j u h
            match j with
            | 0 => simp at h; subst h; simp [Addr.add, go_sem]
            | 1 => simp at h; subst h; simp [Addr.add, go_sem]
            | j + 2 => simp at h
          case c2 => intro u hu; simp at hu; rcases hu with rfl | rfl <;> rfl
          case c3 => unfold maxLen; omega
          case c4 => omega
          case c5 => simp; omega
          intro v' w4 hown' hgrow _
          have HO4 : Hid (OwnT w4 w.heap.size v' (d ++ [t])) := by
            show w4.ownsRow _ _ 2 v' (d ++ [t]).length _
            rw [tcells_snoc, List.length_append]
            have e : t.cells = [.int .i64 t.k, .string ts] := by rw [HTS.out]; rfl
            rw [e]
            exact hown'
          have hz := hgrow.size
          have HB4 : Hid (Below w.heap.size w w4) := (HB3.out.alloc (by simp; omega) _).grown hgrow (by simp; omega) fun g hg => (HO3.out.lt g hg).1
          clear hown' hgrow t0 t1 tf
          simp at hz
          go_wp2_with (go_at_call 21; refine (HBB.out _).mono ?_; rintro e w5 ⟨rfl, hb5⟩)
          go_roundw
          case rel => exact ⟨S2, d ++ [t], rfl, by omega, by simp; omega, HO4.out.below hb5 (Nat.le_refl _), HB4.out.trans (hb5.mono HB4.out.size), HN.out⟩
          case measure => exact hs2
    · have hemp : S.data.toList = [] := List.length_eq_zero_iff.1 (by rw [← Lib.size_eq]; omega)
      have hne : S.toList = [] := by rw [toList_data]; exact hemp
      have hne2 : S.toList.isEmpty = true := by rw [hne]; rfl
      have HR := Lib.hid (show cutR s.data.toList = some d from cutR_some (by
        rw [HC.out.2, hemp, cut_end rfl]
        simp) hd)
      clear hemp
      go_wp2
      go_ret2
      exact ⟨.inl ⟨_, _, HR.out, rfl, HO.out⟩, hb⟩
end Go.Proofs.YtnahejljelbbgaaGreatDoor
