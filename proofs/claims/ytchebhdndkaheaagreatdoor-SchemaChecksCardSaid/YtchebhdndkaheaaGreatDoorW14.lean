import Derived.Test.YtchebhdndkaheaaGreatDoorW13
import Derived.Shelf.Strings.SlTrimAscii
import Derived.Laws.AppendOwn
import Derived.Laws.OwnMore
import Derived.Test.YtchebhdndkaheaaGreatDoorW07
import Derived.Deep.DeepCutAuto
import Derived.Defers
import Derived.Test.YtchebhdndkaheaaGreatDoorW06
import Derived.Lib.SmallJoins
import Derived.Lib.AppendStr
import Derived.Lib.UnsafeStr
import Derived.Lib.Builder
import Derived.Lib.Strings
import Derived.Lib.Slices
import Derived.Lib.Walk
import Derived.Laws.Externs
import Derived.Shelf.Strings.Builder2
import Derived.Ground.GgwProg
import Derived.Test.YtchebhdndkaheaaGreatDoorProg
import Derived.Shelf.Lays
import Derived.Test.YtchebhdndkaheaaGreatDoorW05
import Derived.Deep.RegionWith
import Derived.Test.YtchebhdndkaheaaGreatDoorW09
import Derived.LoopTactic
import Derived.Test.YtchebhdndkaheaaGreatDoorW12
import Derived.Test.YtchebhdndkaheaaGreatDoorRows
import Derived.Test.YtchebhdndkaheaaGreatDoorTie
import Derived.Test.YtchebhdndkaheaaGreatDoorCards
import Derived.ProofKit
import Derived.OpenShut
import Derived.LaidMore
import Derived.Lay
import Derived.SevenTiedAt
import Derived.SizedLaws
import Derived.Stop.Joined
import Derived.Shelf.Vars

/- Rows of tokens in memory; Cut. -/
namespace Go.Proofs.YtchebhdndkaheaaGreatDoor
open Go.RowKit Go.Lib

theorem ascii_two : ∀ (j : Nat) (b : UInt8), (⟨#[32, 10]⟩ : ByteArray).data.toList[j]? = some b → b.toNat < 128 := by
  intro j b h
  match j with
  | 0 => simp at h; subst h; decide
  | 1 => simp at h; subst h; decide
  | j + 2 => simp at h
theorem blanks_any (s : ByteArray) (w : World) :
    Calls Tryz.prog 142 #[.string s, .string ⟨#[32, 10]⟩] w fun e w' => e = .returned (.string ⟨(skip s.data.toList).toArray⟩) ∧ Below w.heap.size w w' :=
  Any.strings_TrimLeft_laid Tryz.lays161 (by kernel_rfl) s ⟨#[32, 10]⟩ w (by decide) ascii_two
set_option maxRecDepth 100000 in
theorem behind_any (s : ByteArray) (w : World) :
    Calls Tryz.prog 109 #[.string s] w fun e w' => e = .returned (.string ⟨(skip s.data.toList).toArray⟩) ∧ Below w.heap.size w w' := by
  go_enter Tryz.func109, Tryz.ntmps109
  go_wp2_with (go_at_call 142; refine (blanks_any s _).mono ?_; rintro e w1 ⟨rfl, hb1⟩)
  go_ret
  exact ⟨rfl, hb1⟩
theorem clone_any (s : ByteArray) (w : World) (hs : s.size ≤ 100000) :
    Calls Tryz.prog 111 #[.string s] w fun e w' => e = .returned (.string s) ∧ Below w.heap.size w w' := by
  go_enter Tryz.func111, Tryz.ntmps111
  go_wp2_with (go_at_call 146; refine (Tryz.stringslite_Clone s _ (by omega)).mono ?_; rintro e w1 ⟨rfl, hb1⟩)
  go_ret
  exact ⟨rfl, hb1⟩

def Tk.cells (x : Tk) : List Value := [.int .i64 x.k, .string ⟨x.s.toArray⟩]
def tcells (l : List Tk) : List Value := l.flatMap Tk.cells
theorem tcells_snoc (l : List Tk) (x : Tk) : tcells (l ++ [x]) = tcells l ++ x.cells := by simp [tcells]
theorem infoTok : (Tryz.prog.info? 136).map (fun i => (i.zero, i.size, i.bytes)) = some (some (.agg #[.int .i64 0, .string ⟨#[]⟩]), 2, 24) := by kernel_rfl
/-- A row of tokens of the call's own. -/
def OwnT (W : World) (B : Nat) (v : Value) (l : List Tk) : Prop := W.ownsRow B 136 2 v l.length (tcells l)
theorem OwnT.below {W W' : World} {B C : Nat} {v : Value} {l : List Tk} (h : OwnT W B v l) (hb : Below C W W') (hC : W.heap.size ≤ C) : OwnT W' B v l :=
  World.ownsRow.kept (row := none) h ⟨hb.os, hb.tape, hb.output, hb.size, fun q hq _ => hb.block q (by omega)⟩ (by cases h : Value.ownBlock v with | none => exact .inl rfl | some _ => exact .inr (by simp))
theorem OwnT.alloc {W : World} {B : Nat} {v : Value} {l : List Tk} (h : OwnT W B v l) (o : Obj) : OwnT (W.alloc o) B v l := World.ownsRow.alloc h o
theorem OwnT.set {W : World} {B b o : Nat} {v u : Value} {l : List Tk} (h : OwnT W B v l) (hb : ∀ g, v.ownBlock = some g → g < b) : OwnT (W.setCell ⟨b, o, none⟩ u) B v l :=
  World.ownsRow.kept (row := some b) h ⟨rfl, rfl, rfl, by simp [World.setCell], fun q _ hq => Below.heap_setCell _ _ _ _ (fun e => hq (by simp [e]))⟩ (by
    cases hv : v.ownBlock with
    | none => exact .inl rfl
    | some g => refine .inr fun e => ?_; injection e with e; have := hb g hv; omega)
theorem OwnT.mono {W : World} {B B' : Nat} {v : Value} {l : List Tk} (h : OwnT W B v l) (hB : B' ≤ B) : OwnT W B' v l := by
  refine ⟨h.1, ?_⟩
  rcases h.2 with h' | ⟨g, cap, cur, e, hb, r⟩
  · exact .inl h'
  · exact .inr ⟨g, cap, cur, e, Nat.le_trans hB hb, r⟩
theorem OwnT.form {W : World} {B : Nat} {v : Value} {l : List Tk} (h : OwnT W B v l) : ∃ A cap, v = .slice A l.length cap := by
  rcases h.2 with ⟨rfl, h0⟩ | ⟨g, cap, cur, rfl, _⟩
  · exact ⟨none, 0, by rw [h0]⟩
  · exact ⟨_, _, rfl⟩
theorem skip_skip (l : List UInt8) : skip (skip l) = skip l := by
  unfold skip
  induction l with
  | nil => rfl
  | cons c l ih =>
    rw [List.dropWhile_cons]
    split
    · exact ih
    · rename_i h
      rw [List.dropWhile_cons, if_neg h]
theorem cut_skip (l : List UInt8) : cut (skip l) = cut l := by
  cases h : fst (skip l) with
  | none =>
    by_cases hn : skip l = []
    · rw [cut_end hn, cut_end (by rw [skip_skip]; exact hn)]
    · rw [cut_none h hn, cut_none (by rw [skip_skip]; exact h) (by rw [skip_skip]; exact hn)]
  | some y =>
    obtain ⟨t, n⟩ := y
    rw [cut_more h, cut_more (l := skip l) (by rw [skip_skip]; exact h), skip_skip]
/-- A text's tokens, if there are no more than may be. -/
def cutR (l : List UInt8) : Option (List Tk) := match cut l with
  | none => none
  | some ts => if ts.length ≤ 400 then some ts else none
theorem cutR_none {l : List UInt8} (h : cut l = none) : cutR l = none := by unfold cutR; rw [h]
theorem cutR_some {l : List UInt8} {ts : List Tk} (h : cut l = some ts) (hl : ts.length ≤ 400) : cutR l = some ts := by unfold cutR; rw [h]; simp [hl]
theorem cutR_many {l : List UInt8} {m : List Tk} {o : Option (List Tk)} {d : List Tk} (h : cut l = (o.map (m ++ ·)).map (d ++ ·)) (hl : 400 < d.length + m.length) : cutR l = none := by
  unfold cutR
  rw [h]
  cases o with
  | none => rfl
  | some x =>
    show (if (d ++ (m ++ x)).length ≤ 400 then _ else _) = _
    rw [if_neg (by simp; omega)]
def CutR (l : List UInt8) (B : Nat) (e : Ending) (W : World) : Prop :=
  (∃ v ts, cutR l = some ts ∧ e = .returned (.tuple #[v, .int .i64 0]) ∧ OwnT W B v ts) ∨ (cutR l = none ∧ e = .returned (.tuple #[.slice none 0 0, .int .i64 2]))
theorem map_map_one {o : Option (List Tk)} {d : List Tk} {t : Tk} : (o.map (t :: ·)).map (d ++ ·) = o.map ((d ++ [t]) ++ ·) := by cases o <;> simp

set_option maxRecDepth 100000 in
set_option maxHeartbeats 3200000 in
theorem cut_any (s : ByteArray) (w : World) (hs : s.size ≤ 100000) (hl : LibE w) :
    Calls Tryz.prog 83 #[.string s] w fun e w' => CutR s.data.toList w.heap.size e w' ∧ Below w.heap.size w w' := by
  obtain ⟨i0, hi, hz0, hz1, hz2⟩ := info_parts infoTok
  have HL := Lib.hid hl
  clear hl
  obtain ⟨S0, hS0⟩ : ∃ S : ByteArray, S = ⟨(skip s.data.toList).toArray⟩ := ⟨_, rfl⟩
  have HB0 := Lib.hid (fun (W : World) => hS0 ▸ behind_any s W)
  have hs0 : S0.size ≤ 100000 := by
    have h1 := skip_len s.data.toList
    rw [← Lib.size_eq] at h1
    rw [hS0]
    simp [ByteArray.size]
    omega
  have HS0 : Hid (skip S0.data.toList = S0.data.toList ∧ cut s.data.toList = (cut S0.data.toList).map (([] : List Tk) ++ ·)) := by
    rw [hS0]
    refine ⟨skip_skip _, ?_⟩
    show _ = Option.map _ (cut (skip s.data.toList))
    rw [cut_skip]
    cases cut s.data.toList <;> rfl
  clear hS0
  go_enter Tryz.func83, Tryz.ntmps83
  go_wp2_with (go_at_call 109; refine (HB0.out _).mono ?_; rintro e w1 ⟨rfl, hb1⟩; have HB1 := Lib.hid hb1; clear hb1)
  go_loopw [0, 4, 5, 6] (fun sv v _ _ wr => ∃ (S : ByteArray) (d : List Tk), sv = .string S ∧ S.size ≤ 100000 ∧ d.length ≤ 400 ∧ OwnT wr w.heap.size v d ∧ Below w.heap.size w wr ∧ Hid (skip S.data.toList = S.data.toList ∧ cut s.data.toList = (cut S.data.toList).map (d ++ ·))) (fun sv _ _ _ _ => match sv with | .string S => S.size | _ => 0)
  case atStart => exact ⟨S0, [], rfl, hs0, by simp, World.ownsRow_nil _ _ _ _, HB1.out, HS0.out⟩
  case round =>
    obtain ⟨S, d, rfl, hS, hd, hown, hb, HC⟩ := hrel
    have HO := Lib.hid hown
    obtain ⟨A, cap, rfl⟩ := hown.form
    clear hown
    have hbs := hb.size
    by_cases h0 : 0 < S.size
    · have hne := nonempty_of' h0
      have hne2 : ¬ S.toList = [] := fun h => by rw [h] at hne; cases hne
      have hne3 : S.data.toList ≠ [] := fun h => hne2 (by rw [toList_data]; exact h)
      cases hf : fst S.data.toList with
      | none =>
        have HR := Lib.hid (show cutR s.data.toList = none from cutR_none (by rw [HC.out.2, cut_none (by rw [HC.out.1]; exact hf) (by rw [HC.out.1]; exact hne3)]; rfl))
        have HF := Lib.hid (fun (W : World) (h : LibE W) => (show Calls Tryz.prog 110 #[.string S] W fun e w' => e = .returned (.tuple #[.agg #[.int .i64 0, .string ⟨#[]⟩], .int .i64 0]) ∧ Below W.heap.size W w' from by
          have := first_any S W h0 hS h
          rwa [hf] at this))
        clear hf hne3
        go_wp2_with (go_at_call 110; refine (HF.out _ (HL.out.keep hb (Nat.le_refl _))).mono ?_; rintro e w2 ⟨rfl, hb2⟩)
        go_ret2
        exact ⟨.inr ⟨HR.out, rfl⟩, (hb.trans (hb2.mono hbs)).alloc (by have := hb2.size; omega) _⟩
      | some y =>
        obtain ⟨t, n⟩ := y
        obtain ⟨hn1, hn2⟩ := fst_pos hf
        rw [← Lib.size_eq] at hn2
        have HM := Lib.hid (show cut s.data.toList = ((cut (S.data.toList.drop n)).map (t :: ·)).map (d ++ ·) by
          rw [HC.out.2, cut_more (l := S.data.toList) (by rw [HC.out.1]; exact hf), HC.out.1])
        have hts : (⟨t.s.toArray⟩ : ByteArray).size ≤ 100000 := fst_size hf (by rw [← Lib.size_eq]; exact hS)
        obtain ⟨ts, hts'⟩ : ∃ ts : ByteArray, ts = ⟨t.s.toArray⟩ := ⟨_, rfl⟩
        rw [← hts'] at hts
        have HF := Lib.hid (fun (W : World) (h : LibE W) => (show Calls Tryz.prog 110 #[.string S] W fun e w' => e = .returned (.tuple #[.agg #[.int .i64 t.k, .string ts], .int .i64 n]) ∧ Below W.heap.size W w' from by
          have := first_any S W h0 hS h
          rw [hf] at this
          rw [hts']
          exact this))
        have HTS := Lib.hid hts'
        have hnz : ((n : Int) == 0) = false := beq_eq_false_iff_ne.2 (by omega)
        have hnz2 : ¬ (n : Int) = 0 := by omega
        have hnle : 0 ≤ (n : Int) ∧ (n : Int) ≤ (S.size : Int) := by omega
        clear hf hne3 hts'
        by_cases h400 : d.length = 400
        · have HR := Lib.hid (show cutR s.data.toList = none from by
            have h := HM.out
            exact cutR_many (m := [t]) (o := cut (S.data.toList.drop n)) (d := d) h (by simp; omega))
          have h4 : (d.length : Int) = 400 := by omega
          go_wp2_with (go_at_call 110; refine (HF.out _ (HL.out.keep hb (Nat.le_refl _))).mono ?_; rintro e w2 ⟨rfl, hb2⟩)
          go_ret2
          exact ⟨.inr ⟨HR.out, rfl⟩, (hb.trans (hb2.mono hbs)).alloc (by have := hb2.size; omega) _⟩
        · have h4 : ¬ (d.length : Int) = 400 := by omega
          obtain ⟨S2, hS2⟩ : ∃ S2 : ByteArray, S2 = ⟨(skip (S.data.toList.drop n)).toArray⟩ := ⟨_, rfl⟩
          have HBB := Lib.hid (fun (W : World) => (show Calls Tryz.prog 109 #[.string (S.extract n S.size)] W fun e w' => e = .returned (.string S2) ∧ Below W.heap.size W w' from by
            have := behind_any (S.extract n S.size) W
            rw [rest_list] at this
            rw [hS2]; exact this))
          have hs2 : S2.size < S.size := by
            have h1 := skip_len (S.data.toList.drop n)
            rw [List.length_drop, ← Lib.size_eq] at h1
            rw [hS2]
            simp only [ByteArray.size, List.size_toArray] at h1 ⊢
            have : S.data.size = S.size := rfl
            omega
          have HN : Hid (skip S2.data.toList = S2.data.toList ∧ cut s.data.toList = (cut S2.data.toList).map ((d ++ [t]) ++ ·)) := by
            rw [hS2]
            refine ⟨skip_skip _, ?_⟩
            show _ = Option.map _ (cut (skip (S.data.toList.drop n)))
            rw [cut_skip, HM.out, map_map_one]
          clear hS2
          go_wp2_with (first
            | (go_at_call 110; refine (HF.out _ (HL.out.keep hb (Nat.le_refl _))).mono ?_; rintro e w2 ⟨rfl, hb2⟩; have HO2 := Lib.hid (HO.out.below hb2 (Nat.le_refl _)); have HB2 := Lib.hid (hb.trans (hb2.mono hbs)); have hs21 := hb2.size; clear hb2)
            | (go_at_call 111; refine (clone_any _ _ hts).mono ?_; rintro e w3 ⟨rfl, hb3⟩; have t0 : w3.cell? ⟨w2.heap.size, 0, none⟩ = some (.int .i64 t.k) := (hb3.cell (p := ⟨w2.heap.size, 0, none⟩) (by simp)).trans (by simp [go_sem]); have t1 : w3.cell? ⟨w2.heap.size, 1, none⟩ = some (.string ts) := (hb3.cell (p := ⟨w2.heap.size, 1, none⟩) (by simp)).trans (by simp [go_sem]); have tf : ∀ o, w3.frozen? ⟨w2.heap.size, o, none⟩ = false := (fun o => (hb3.frozen (p := ⟨w2.heap.size, o, none⟩) (by simp)).trans (by simp [go_sem])); have HO3 := Lib.hid (((HO2.out.alloc _).below hb3 (Nat.le_refl _)).set (b := w2.heap.size) (o := 1) (u := .string ts) (fun g hg => (HO2.out.lt g hg).2)); have hs32 := hb3.size; (try simp at hs32); have HB3 := Lib.hid (cSet1 (show w.heap.size ≤ w2.heap.size by omega) ((HB2.out.alloc (by omega) (.cells #[.int .i64 t.k, .string ts] 136)).trans (hb3.mono (by simp; omega))) 1 (.string ts)); clear hb3)
            | (go_at_call 109; refine (HBB.out _).mono ?_; rintro e w5 ⟨rfl, hb5⟩)
            | (at_builtin; refine wpList_append_own _ rfl _ _ 113 rfl w.heap.size 136 i0 _ 2 24 Tryz.underlying113 hi hz0 hz1 hz2 rfl (by decide) _ _ _ rfl (World.ownsRow.alloc HO3.out _) ⟨w3.heap.size, 0, none⟩ 1 1 [.int .i64 t.k, .string ts] rfl rfl ?c1 ?c2 ?c3 ?c4 ?c5 ?_))
          case c1 =>
            intro j u h
            match j with
            | 0 => simp at h; subst h; simp [Addr.add, go_sem]
            | 1 => simp at h; subst h; simp [Addr.add, go_sem]
            | j + 2 => simp at h
          case c2 => intro u hu; simp at hu; rcases hu with rfl | rfl <;> rfl
          case c3 => unfold maxLen; omega
          case c4 => omega
          case c5 => simp; omega
          intro v' w4 hown' hgrow _
          have HO4 : Hid (OwnT w4 w.heap.size v' (d ++ [t])) := by
            show w4.ownsRow _ _ 2 v' (d ++ [t]).length _
            rw [tcells_snoc, List.length_append]
            have e : t.cells = [.int .i64 t.k, .string ts] := by rw [HTS.out]; rfl
            rw [e]
            exact hown'
          have hz := hgrow.size
          have HB4 : Hid (Below w.heap.size w w4) := (HB3.out.alloc (by simp; omega) _).grown hgrow (by simp; omega) fun g hg => (HO3.out.lt g hg).1
          clear hown' hgrow t0 t1 tf
          simp at hz
          go_wp2_with (go_at_call 109; refine (HBB.out _).mono ?_; rintro e w5 ⟨rfl, hb5⟩)
          go_roundw
          case rel => exact ⟨S2, d ++ [t], rfl, by omega, by simp; omega, HO4.out.below hb5 (Nat.le_refl _), HB4.out.trans (hb5.mono HB4.out.size), HN.out⟩
          case measure => exact hs2
    · have hemp : S.data.toList = [] := List.length_eq_zero_iff.1 (by rw [← Lib.size_eq]; omega)
      have hne : S.toList = [] := by rw [toList_data]; exact hemp
      have hne2 : S.toList.isEmpty = true := by rw [hne]; rfl
      have HR := Lib.hid (show cutR s.data.toList = some d from cutR_some (by
        rw [HC.out.2, hemp, cut_end rfl]
        simp) hd)
      clear hemp
      go_wp2
      go_ret2
      exact ⟨.inl ⟨_, _, HR.out, rfl, HO.out⟩, hb⟩
end Go.Proofs.YtchebhdndkaheaaGreatDoor

/- Rows of tokens: Same; the law's few; the chapter's examples (awake). -/
namespace Go.Proofs.YtchebhdndkaheaaGreatDoor
open Go.RowKit Go.Lib

theorem add_blk (a : Addr) (n : Nat) : (a.add n).block = a.block := by unfold Addr.add; split <;> rfl
/-- Token x lies at this address. -/
structure TkAt (W : World) (a : Addr) (x : Tk) : Prop where
  k : W.cell? a = some (.int .i64 x.k)
  s : W.cell? ⟨a.block, a.off + 1, none⟩ = some (.string ⟨x.s.toArray⟩)
theorem TkAt.keep {W W' : World} {a : Addr} {x : Tk} {B : Nat} (h : TkAt W a x) (hb : Below B W W') (hB : a.block < B) : TkAt W' a x :=
  ⟨(hb.cell hB).trans h.k, (hb.cell (p := ⟨a.block, _, none⟩) hB).trans h.s⟩
/-- The slice of n elements at A reads as these tokens; it lies below block B. -/
def Toks (W : World) (B : Nat) (A : Option Addr) (n : Nat) (l : List Tk) : Prop :=
  l.length = n ∧ ∀ j (h : j < l.length), ∃ a, A = some a ∧ TkAt W (a.add (j * 2)) l[j] ∧ a.block < B
theorem Toks.keep {W W' : World} {B : Nat} {A : Option Addr} {n : Nat} {l : List Tk} (h : Toks W B A n l) (hb : Below B W W') : Toks W' B A n l :=
  ⟨h.1, fun j hj => by
    obtain ⟨a, e, h1, h2⟩ := h.2 j hj
    exact ⟨a, e, h1.keep hb (by rw [add_blk]; exact h2), h2⟩⟩
theorem Toks.more {W : World} {B B' : Nat} {A : Option Addr} {n : Nat} {l : List Tk} (h : Toks W B A n l) (hB : B ≤ B') : Toks W B' A n l :=
  ⟨h.1, fun j hj => by
    obtain ⟨a, e, h1, h2⟩ := h.2 j hj
    exact ⟨a, e, h1, by omega⟩⟩
theorem Toks.later {W W' : World} {A : Option Addr} {n : Nat} {l : List Tk} (h : Toks W W.heap.size A n l) (hb : Below W.heap.size W W') : Toks W' W'.heap.size A n l := (h.keep hb).more hb.size
theorem Toks.at_ {W : World} {B : Nat} {A : Option Addr} {n : Nat} {l : List Tk} (h : Toks W B A n l) {k : Nat} (hk : k < n) : ∃ a x, A = some a ∧ l[k]? = some x ∧ TkAt W (a.add (k * 2)) x ∧ a.block < B := by
  obtain ⟨h1, h2⟩ := h
  obtain ⟨a, e, h3, h4⟩ := h2 k (by omega)
  exact ⟨a, l[k]'(by omega), e, List.getElem?_eq_getElem _, h3, h4⟩
theorem cut_ok (s : ByteArray) (w : World) (hs : s.size ≤ 100000) (hl : LibE w) (ts : List Tk) (h : cutR s.data.toList = some ts) :
    Calls Tryz.prog 83 #[.string s] w fun e w' => ∃ v, e = .returned (.tuple #[v, .int .i64 0]) ∧ Hid (OwnT w' w.heap.size v ts) ∧ Below w.heap.size w w' :=
  (cut_any s w hs hl).mono fun e w' ⟨hc, hb⟩ => by
    rcases hc with ⟨v, ts', h1, h2, h3⟩ | ⟨h1, _⟩
    · rw [h] at h1
      obtain rfl := Option.some.inj h1
      exact ⟨v, h2, h3, hb⟩
    · rw [h] at h1; cases h1
end Go.Proofs.YtchebhdndkaheaaGreatDoor

/- The chapter's examples (awake). -/
namespace Go.Proofs.YtchebhdndkaheaaGreatDoor
open Go.RowKit Go.Lib

theorem Toks.alloc {W : World} {A : Option Addr} {n : Nat} {l : List Tk} (h : Toks W W.heap.size A n l) (o : Obj) : Toks (W.alloc o) (W.alloc o).heap.size A n l := h.later ((Below.refl _ _).alloc (Nat.le_refl _) o)
end Go.Proofs.YtchebhdndkaheaaGreatDoor

/- May a token be. -/
namespace Go.Proofs.YtchebhdndkaheaaGreatDoor
open Go.RowKit Go.Lib

/-- May a token be? -/
def tmayB (k : Int) (s : ByteArray) : Bool :=
  if k = 3 then mayB 2 0 s else if k = 1 then kmay letB parB 16 s.data.toList else if k = 2 then kmay digB digB 19 s.data.toList else if k = 4 then kmay sigB nonB 1 s.data.toList else false
/-- The token's box, while the kinds are gone through. -/
structure TB (w : World) (k : Int) (s : ByteArray) (W : World) : Prop where
  below : Below w.heap.size w W
  c0 : W.cell? ⟨w.heap.size, 0, none⟩ = some (.int .i64 k)
  c1 : W.cell? ⟨w.heap.size, 1, none⟩ = some (.string s)
theorem TB.lt {w W : World} {k : Int} {s : ByteArray} (h : TB w k s W) : w.heap.size < W.heap.size := World.block_lt_of_cell? _ _ h.c0
theorem TB.later {w W W' : World} {k : Int} {s : ByteArray} (h : TB w k s W) (hb : Below W.heap.size W W') : TB w k s W' :=
  ⟨h.below.trans (hb.mono h.below.size), (hb.cell (p := ⟨_, _, none⟩) h.lt).trans h.c0, (hb.cell (p := ⟨_, _, none⟩) h.lt).trans h.c1⟩
theorem TB.alloc {w W : World} {k : Int} {s : ByteArray} (h : TB w k s W) (o : Obj) : TB w k s (W.alloc o) := h.later ((Below.refl _ _).alloc (Nat.le_refl _) o)
theorem TB.start (w : World) (k : Int) (s : ByteArray) (t : TypeId) : TB w k s (w.alloc (.cells #[.int .i64 k, .string s] t)) :=
  ⟨(Below.refl _ _).alloc (Nat.le_refl _) _, by simp [go_sem], by simp [go_sem]⟩

end Go.Proofs.YtchebhdndkaheaaGreatDoor

/- The parser: its state, the token at hand. -/
namespace Go.Proofs.YtchebhdndkaheaaGreatDoor
open Go.RowKit Go.Lib

structure Tn where
  k : Int
  s : ByteArray
structure TnAt (W : World) (a : Addr) (x : Tn) : Prop where
  c0 : W.cell? a = some (.int .i64 x.k)
  c1 : W.cell? ⟨a.block, a.off + 1, none⟩ = some (.string x.s)
theorem TnAt.lt {W : World} {a : Addr} {x : Tn} (h : TnAt W a x) : a.block < W.heap.size := World.block_lt_of_cell? W _ h.c0
theorem TnAt.keep {W W' : World} {a : Addr} {x : Tn} (h : TnAt W a x) (hb : W'.heap[a.block]? = W.heap[a.block]?) : TnAt W' a x :=
  ⟨(World.cell?_of_block (w := W) (a := a) hb).trans h.c0, (World.cell?_of_block (w := W) (a := ⟨a.block, _, none⟩) hb).trans h.c1⟩

section
variable {W W' : World} {g : Nat} {A : Option Addr} {c : Nat} {l : List Tn} {at' ask : Nat} {failed : Bool}
end

end Go.Proofs.YtchebhdndkaheaaGreatDoor

/- The parser: what it takes; where it fails; what is checked. -/
namespace Go.Proofs.YtchebhdndkaheaaGreatDoor
open Go.RowKit Go.Lib

theorem cSet6 {a b : World} {n k : Nat} (hn : n ≤ k) (h : Below n a b) (x y z u v r : Value) : Below n a ((((((b.setCell ⟨k, 0, none⟩ x).setCell ⟨k, 1, none⟩ y).setCell ⟨k, 2, none⟩ z).setCell ⟨k, 3, none⟩ u).setCell ⟨k, 4, none⟩ v).setCell ⟨k, 5, none⟩ r) :=
  (((((h.setCell hn x).setCell hn y).setCell hn z).setCell hn u).setCell hn v).setCell hn r
def set6 (W : World) (b : Nat) (x y z u v r : Value) : World := (((((W.setCell ⟨b, 0, none⟩ x).setCell ⟨b, 1, none⟩ y).setCell ⟨b, 2, none⟩ z).setCell ⟨b, 3, none⟩ u).setCell ⟨b, 4, none⟩ v).setCell ⟨b, 5, none⟩ r
theorem set6_block (W : World) (b : Nat) (x y z u v r : Value) {q : Nat} (h : q ≠ b) : (set6 W b x y z u v r).heap[q]? = W.heap[q]? := by
  unfold set6
  iterate 6 rw [Below.heap_setCell _ _ _ _ (by exact h)]
theorem set6_size (W : World) (b : Nat) (x y z u v r : Value) : (set6 W b x y z u v r).heap.size = W.heap.size := by simp [set6, World.setCell]
theorem Tr.set6 {W : World} {P Q : Nat → Prop} {n : Nat} {t : Ex} {y' : Value} (h : Tr W P n t y') {b : Nat} (hb : ¬ P b) (hq : ∀ b, P b → b < W.heap.size → Q b) (x y z u v r : Value) : Tr (set6 W b x y z u v r) Q n t y' :=
  h.keep (fun q hp _ => set6_block _ _ _ _ _ _ _ _ (fun e => hb (e ▸ hp))) hq

/-- No expression. -/
def zT : Ex := .mk ⟨#[]⟩ ⟨0, 0, ⟨#[]⟩⟩ ⟨#[]⟩ []
theorem zT_tr (W : World) (P : Nat → Prop) (n : Nat) : Tr W P n zT (.slice none 0 0) := by
  refine ⟨by decide, ?_⟩
  cases n with
  | zero => exact ⟨rfl, none, 0, rfl⟩
  | succ n => exact ⟨none, 0, rfl, by simp [zT, Ex.l, maxLen], fun j hj => absurd hj (by simp [zT, Ex.l])⟩
/-- A slice reads as these words. -/
def Wds (W : World) (b : Nat) (ws : List ByteArray) : Prop := ∀ j (h : j < ws.length), W.cell? ⟨b, j, none⟩ = some (.string ws[j])
theorem Wds.below {W W' : World} {b : Nat} {ws : List ByteArray} (h : Wds W b ws) (hb : Below W.heap.size W W') : Wds W' b ws := fun j hj => (hb.cell (p := ⟨b, j, none⟩) (World.block_lt_of_cell? W _ (h j hj))).trans (h j hj)

end Go.Proofs.YtchebhdndkaheaaGreatDoor

/- The parser: the part that must follow; parts in a chain. -/
namespace Go.Proofs.YtchebhdndkaheaaGreatDoor
open Go.RowKit Go.Lib

theorem alloc_at {W : World} {n : Nat} (h : W.heap.size = n) (o : Obj) : (W.alloc o).heap[n]? = some o := by
  subst h
  show (W.heap.push o)[W.heap.size]? = _
  simp
end Go.Proofs.YtchebhdndkaheaaGreatDoor

/- The parser: where nothing goes on. -/
namespace Go.Proofs.YtchebhdndkaheaaGreatDoor
open Go.RowKit Go.Lib

end Go.Proofs.YtchebhdndkaheaaGreatDoor

/- The parser: a comparison. -/
namespace Go.Proofs.YtchebhdndkaheaaGreatDoor
open Go.RowKit Go.Lib

end Go.Proofs.YtchebhdndkaheaaGreatDoor

/- The parser: a word, a number, an atom that does not stand in brackets. -/
namespace Go.Proofs.YtchebhdndkaheaaGreatDoor
open Go.RowKit Go.Lib

def litT (x : Vl) : Ex := .mk ⟨#[108, 105, 116]⟩ x ⟨#[]⟩ []
def colT (s : ByteArray) : Ex := .mk ⟨#[99, 111, 108]⟩ ⟨0, 0, ⟨#[]⟩⟩ s []
theorem leaf_tr (W : World) (P : Nat → Prop) (n : Nat) (op : ByteArray) (x : Vl) (s : ByteArray) (hs : s.size ≤ 100000) : Tr W P n (.mk op x s []) (.slice none 0 0) := by
  refine ⟨hs, ?_⟩
  cases n with
  | zero => exact ⟨rfl, none, 0, rfl⟩
  | succ n => exact ⟨none, 0, rfl, by simp [Ex.l, maxLen], fun j hj => absurd hj (by simp [Ex.l])⟩

end Go.Proofs.YtchebhdndkaheaaGreatDoor

/- The parser: an atom that does not stand in brackets. -/
namespace Go.Proofs.YtchebhdndkaheaaGreatDoor
open Go.RowKit Go.Lib

end Go.Proofs.YtchebhdndkaheaaGreatDoor

/- The parser: an atom. -/
namespace Go.Proofs.YtchebhdndkaheaaGreatDoor
open Go.RowKit Go.Lib

end Go.Proofs.YtchebhdndkaheaaGreatDoor

/- The parser: a sum, an and, an or, a not. -/
namespace Go.Proofs.YtchebhdndkaheaaGreatDoor
open Go.RowKit Go.Lib

end Go.Proofs.YtchebhdndkaheaaGreatDoor

/- What is written is cut as it was: plain facts, no walk. -/
namespace Go.Proofs.YtchebhdndkaheaaGreatDoor
open Go.RowKit Go.Lib

def Tk.may (t : Tk) : Bool := tmayB t.k ⟨t.s.toArray⟩
/-- What may stand behind a token: nothing, or a blank. -/
def After (r : List UInt8) : Prop := ∀ c, r.head? = some c → blankB c = true
theorem blank_is {c : UInt8} (h : blankB c = true) : c = 32 ∨ c = 10 := by
  have := List.contains_iff_mem.1 h
  simpa using this
theorem After.nil : After [] := fun c h => by cases h
theorem After.cons {c : UInt8} (h : blankB c = true) (r : List UInt8) : After (c :: r) := fun d hd => by simp at hd; rw [← hd]; exact h
theorem After.q {r : List UInt8} (h : After r) : r.head? ≠ some 39 := fun e => by rcases blank_is (h 39 e) with h | h <;> exact absurd h (by decide)
theorem After.no {r : List UInt8} (h : After r) (q : UInt8 → Bool) (h1 : q 32 = false) (h2 : q 10 = false) : r.takeWhile q = [] := by
  cases r with
  | nil => rfl
  | cons c r =>
    rw [List.takeWhile_cons]
    rcases blank_is (h c rfl) with e | e
    · rw [e, h1]; rfl
    · rw [e, h2]; rfl
end Go.Proofs.YtchebhdndkaheaaGreatDoor

/- Join: tokens as they are written. -/
namespace Go.Proofs.YtchebhdndkaheaaGreatDoor
open Go.RowKit Go.Lib

theorem Toks.none (W : World) (B : Nat) : Toks W B none 0 [] := ⟨rfl, fun j hj => absurd hj (by simp)⟩
end Go.Proofs.YtchebhdndkaheaaGreatDoor

/- Writing into a builder that the call has made: a string, an octet. -/
namespace Go.Proofs.YtchebhdndkaheaaGreatDoor
open Go.RowKit Go.Lib

theorem infoByte : (Tryz.prog.info? 5).map (fun i => (i.zero, i.size, i.bytes)) = some (some (.int .u8 0), 1, 1) := by kernel_rfl
theorem byteCells_app (l r : List UInt8) : byteCells (l ++ r) = byteCells l ++ byteCells r := by simp [byteCells]


/-- A builder that holds these octets. -/
def Bld (W : World) (B b : Nat) (l : List UInt8) : Prop := Lib.IsBuilder 164 5 B b (byteCells l) W
theorem Bld.keep {W W' : World} {B b C : Nat} {l : List UInt8} (h : Bld W B b l) (hb : Below C W W') (hC : W.heap.size ≤ C) : Bld W' B b l := by
  have key : ∀ p, Lib.BuilderAt 164 5 B b p (byteCells l) W → Lib.BuilderAt 164 5 B b p (byteCells l) W' := by
    rintro p ⟨h1, v, h2, h3, h4⟩
    have hlt : b < W.heap.size := (Array.getElem?_eq_some_iff.1 h2).1
    refine ⟨h1, v, (hb.block b (by omega)).trans h2, h3.kept (row := none) ⟨hb.os, hb.tape, hb.output, hb.size, fun q hq _ => hb.block q (by omega)⟩ ?_, h4⟩
    cases h : Value.ownBlock v with
    | none => exact .inl rfl
    | some _ => exact .inr (by simp)
  exact Or.imp (key _) (key _) h
theorem Bld.written {W' : World} {B b : Nat} {l r : List UInt8} {p : Value} (h : Lib.BuilderAt 164 5 B b p (byteCells l ++ Lib.strCells ⟨r.toArray⟩) W') (hp : p = .pointer (some ⟨b, 0, none⟩)) : Bld W' B b (l ++ r) := by
  subst hp
  unfold Bld
  rw [byteCells_app]
  exact .inr h
theorem Bld.fresh {W : World} {B b : Nat} (hb : b = W.heap.size) (hB : B ≤ b) : Bld (W.alloc (.cells #[.pointer none, .slice none 0 0] 164)) B b [] := by
  subst hb
  exact .inl ⟨hB, _, heap_alloc_new W _, World.ownsRow_nil _ _ _ _, by simp [Value.ownBlock]⟩
end Go.Proofs.YtchebhdndkaheaaGreatDoor

/- Contracts of the library that this program comes to, laid at its own numbers by the kit's own programs (lay-shelf.mjs, lay-plain.mjs). -/
namespace Go.Proofs
open Go.Shelf
end Go.Proofs

/- strings.ToLower at the two words that are wanted. -/
namespace Go.Proofs.YtchebhdndkaheaaGreatDoor
open Go.RowKit Go.Lib

end Go.Proofs.YtchebhdndkaheaaGreatDoor

/- The parser: two parts with a word between. -/
namespace Go.Proofs.YtchebhdndkaheaaGreatDoor
open Go.RowKit Go.Lib

def twoT (op : ByteArray) (x y : Ex) : Ex := .mk op ⟨0, 0, ⟨#[]⟩⟩ ⟨#[]⟩ [x, y]
section
variable {w W W' : World} {g : Nat} {A : Option Addr} {c : Nat} {l : List Tn} {N : Nat} {Q : Nat → Prop} {t t2 : Ex} {u u2 : Value} {at' ask : Nat} {failed : Bool}
end
end Go.Proofs.YtchebhdndkaheaaGreatDoor

/- The parser: a chain of two; a comparison that goes on. -/
namespace Go.Proofs.YtchebhdndkaheaaGreatDoor
open Go.RowKit Go.Lib

end Go.Proofs.YtchebhdndkaheaaGreatDoor

/- The parser: a comparison that goes on. -/
namespace Go.Proofs.YtchebhdndkaheaaGreatDoor
open Go.RowKit Go.Lib

end Go.Proofs.YtchebhdndkaheaaGreatDoor

/- The parser: NOT; Parse. -/
namespace Go.Proofs.YtchebhdndkaheaaGreatDoor
open Go.RowKit Go.Lib

end Go.Proofs.YtchebhdndkaheaaGreatDoor

/- Join. -/
namespace Go.Proofs.YtchebhdndkaheaaGreatDoor
open Go.RowKit Go.Lib

theorem Bld.lt {W : World} {B b : Nat} {l : List UInt8} (h : Bld W B b l) : b < W.heap.size := by
  rcases h with ⟨_, v, h2, _⟩ | ⟨_, v, h2, _⟩ <;> exact (Array.getElem?_eq_some_iff.1 h2).1
end Go.Proofs.YtchebhdndkaheaaGreatDoor

/- The law LexerAgain. -/
namespace Go.Proofs.YtchebhdndkaheaaGreatDoor
open Go.RowKit Go.Lib

end Go.Proofs.YtchebhdndkaheaaGreatDoor

/- The document's own: digit, letter, part, Name, May. -/
namespace Go.Proofs.YtchebhdndkaheaaGreatDoor
open Go.RowKit Go.Lib

end Go.Proofs.YtchebhdndkaheaaGreatDoor

/- Which expressions may be, plain; names are no values. -/
namespace Go.Proofs.YtchebhdndkaheaaGreatDoor
open Go.RowKit Go.Lib

theorem within_leaf {d : Nat} {t : Ex} {m : Int} (hf : fmT t = true) (hl : t.l = []) (hm : 1 ≤ m) : withinF (d + 1) t m = (true, m - 1) := by
  conv => lhs; unfold withinF
  rw [if_neg (by omega), if_pos hf, hl]
  rfl
theorem within_two {d : Nat} {op : ByteArray} {x y : Ex} {m m1 m2 : Int} (hf : fmT (twoT op x y) = true) (hm : 1 ≤ m) (h1 : withinF d x (m - 1) = (true, m1)) (h2 : withinF d y m1 = (true, m2)) : withinF (d + 1) (twoT op x y) m = (true, m2) := by
  conv => lhs; unfold withinF
  rw [if_neg (by omega), if_pos hf]
  show partsF (withinF d) [x, y] (m - 1) = _
  unfold partsF
  rw [h1, if_pos rfl]
  show partsF (withinF d) [y] m1 = _
  unfold partsF
  rw [h2]
  rfl
theorem nil_l : (⟨#[]⟩ : ByteArray).toList = [] := nilBytes
theorem zero_v : zeroB 0 0 ⟨#[]⟩ = true := by unfold zeroB nilB; rw [nil_l]; rfl
theorem fm_litT (x : Vl) (h : mayB x.k x.i x.s = true) : fmT (litT x) = true := by
  unfold fmT
  show fmB ⟨#[108, 105, 116]⟩ x.k x.i x.s ⟨#[]⟩ 0 = true
  rw [fm_lit (by rw [toList_data])]
  unfold fmLit nilB
  rw [h, nil_l]
  rfl
theorem fm_colT (s : ByteArray) : fmT (colT s) = (nameB s && !resB s) := by
  unfold fmT
  show fmB ⟨#[99, 111, 108]⟩ 0 0 ⟨#[]⟩ s 0 = _
  rw [fm_col (by rw [toList_data])]
  unfold fmCol
  rw [zero_v]
  simp
theorem fm_two {op : ByteArray} {k i : Int} {vs s : ByteArray} {n : Nat} (h : op.toList ∈ [[97, 110, 100], [111, 114], [61], [60], [43], [45]]) : fmB op k i vs s n = fmTwo k i vs s n := by
  simp only [List.mem_cons, List.not_mem_nil, or_false] at h
  rcases h with h | h | h | h | h | h <;> simp [fmB, h]
theorem fm_twoT (op : ByteArray) (x y : Ex) (h : op.toList ∈ [[97, 110, 100], [111, 114], [61], [60], [43], [45]]) : fmT (twoT op x y) = true := by
  unfold fmT
  show fmB op 0 0 ⟨#[]⟩ ⟨#[]⟩ 2 = true
  rw [fm_two h]
  unfold fmTwo nilB
  rw [zero_v, nil_l]
  rfl
end Go.Proofs.YtchebhdndkaheaaGreatDoor

/- The chapter's first example is parsed. -/
namespace Go.Proofs.YtchebhdndkaheaaGreatDoor
open Go.RowKit Go.Lib

theorem res_no {s : ByteArray} (h : (resW.contains s.data.toList) = false) : resB s = false := by unfold resB; rw [toList_data]; exact h
end Go.Proofs.YtchebhdndkaheaaGreatDoor

/- The chapter's examples: awake. -/
namespace Go.Proofs.YtchebhdndkaheaaGreatDoor
open Go.RowKit Go.Lib

end Go.Proofs.YtchebhdndkaheaaGreatDoor

/- What one, its NOT, and both come to: plain facts. -/
namespace Go.Proofs.YtchebhdndkaheaaGreatDoor
open Go.RowKit Go.Lib

end Go.Proofs.YtchebhdndkaheaaGreatDoor

/- The law's Cols: columns come out. -/
namespace Go.Proofs.YtchebhdndkaheaaGreatDoor
open Go.RowKit Go.Lib

def Cl.cells (x : Cl) : List Value := [.string x.n, .int .i64 x.t, .bool x.b]
def ccellsOf (l : List Cl) : List Value := l.flatMap Cl.cells
theorem ccells_len (l : List Cl) : (ccellsOf l).length = l.length * 3 := by
  induction l with
  | nil => rfl
  | cons x l ih => simp only [ccellsOf, List.flatMap_cons, List.length_append] at ih ⊢; rw [ih]; simp [Cl.cells]; omega
theorem ccells_snoc (l : List Cl) (x : Cl) : ccellsOf (l ++ [x]) = ccellsOf l ++ x.cells := by simp [ccellsOf]
theorem ccells_at (l : List Cl) : ∀ j (h : j < l.length), (ccellsOf l)[j * 3]? = some (.string l[j].n) ∧ (ccellsOf l)[j * 3 + 1]? = some (.int .i64 l[j].t) ∧ (ccellsOf l)[j * 3 + 2]? = some (.bool l[j].b) := by
  induction l with
  | nil => intro j h; simp at h
  | cons x l ih =>
    intro j h
    cases j with
    | zero => simp [ccellsOf, Cl.cells]
    | succ j =>
      have := ih j (by simpa using h)
      have e : ccellsOf (x :: l) = x.cells ++ ccellsOf l := by simp [ccellsOf]
      have hl : x.cells.length = 3 := rfl
      rw [e]
      refine ⟨?_, ?_, ?_⟩
      · rw [List.getElem?_append_right (by rw [hl]; omega), hl, show (j + 1) * 3 - 3 = j * 3 by omega]; exact this.1
      · rw [List.getElem?_append_right (by rw [hl]; omega), hl, show (j + 1) * 3 + 1 - 3 = j * 3 + 1 by omega]; exact this.2.1
      · rw [List.getElem?_append_right (by rw [hl]; omega), hl, show (j + 1) * 3 + 2 - 3 = j * 3 + 2 by omega]; exact this.2.2
theorem ccells_one (l : List Cl) : ∀ u ∈ ccellsOf l, u.oneCell' = true := by
  intro u hu
  simp only [ccellsOf, List.mem_flatMap, Cl.cells] at hu
  obtain ⟨x, _, hx⟩ := hu
  simp at hx
  rcases hx with rfl | rfl | rfl <;> rfl
theorem ColS.of_own {W : World} {B : Nat} {v : Value} {l : List Cl} {n : Nat} (h : W.ownsRow B 43 3 v n (ccellsOf l)) : ∃ A cap, v = .slice A n cap ∧ ColS W A n l ∧ ∀ a, A = some a → B ≤ a.block := by
  have hl : l.length = n := by have := h.1; rw [ccells_len] at this; omega
  rcases h.2 with ⟨rfl, h0⟩ | ⟨g, cap, cur, rfl, hB, hg, hc, hm, hs, ht⟩
  · subst h0
    exact ⟨none, 0, rfl, ⟨hl, by unfold maxLen; omega, fun j hj => absurd hj (by omega)⟩, fun a e => by cases e⟩
  · refine ⟨_, cap, rfl, ⟨hl, Nat.le_trans hc hm, fun j hj => ⟨_, rfl, ?_⟩⟩, fun a e => by injection e with e; subst e; exact hB⟩
    have hadd : (⟨g, 0, none⟩ : Addr).add (j * 3) = ⟨g, j * 3, none⟩ := by unfold Addr.add; split <;> simp_all
    obtain ⟨c0, c1, c2⟩ := ccells_at l j hj
    rw [hadd]
    exact ⟨(h.cellAt (j * 3) (by omega)).trans c0, (h.cellAt (j * 3 + 1) (by omega)).trans c1, (h.cellAt (j * 3 + 2) (by omega)).trans c2⟩
theorem ColS.keep {W W' : World} {A : Option Addr} {n : Nat} {l : List Cl} (h : ColS W A n l) (hk : ∀ a, A = some a → W'.heap[a.block]? = W.heap[a.block]?) : ColS W' A n l :=
  ⟨h.1, h.2.1, fun j hj => by obtain ⟨a, e, hc⟩ := h.2.2 j hj; exact ⟨a, e, hc.keep (by rw [add_block]; exact hk a e)⟩⟩
theorem Vals.own {W : World} {B : Nat} {v : Value} {l : List Vl} {n : Nat} (h : W.ownsRow B 26 3 v n (cellsOf l)) : ∃ A cap, v = .slice A n cap ∧ Vals W W.heap.size A n l ∧ n ≤ cap ∧ cap ≤ maxLen ∧ ∀ a, A = some a → B ≤ a.block := by
  obtain ⟨A, cap, rfl, h1, h2, h3⟩ := Vals.of_own h
  refine ⟨A, cap, rfl, h1, h2, h3, fun a e => ?_⟩
  subst e
  rcases h.2 with ⟨h0, _⟩ | ⟨g, cap', cur, hv, hB, _⟩
  · cases h0
  · injection hv with hv _ _
    injection hv with hv
    subst hv
    exact hB
theorem infoCol : (Tryz.prog.info? 43).map (fun i => (i.zero, i.size, i.bytes)) = some (some (.agg #[.string ⟨#[]⟩, .int .i64 0, .bool false]), 3, 32) := by kernel_rfl
theorem new_ccells {W : World} {n : Nat} {t : TypeId} {x : Cl} (h : W.heap.size = n) : ∀ j u, x.cells[j]? = some u → (W.alloc (.cells #[.string x.n, .int .i64 x.t, .bool x.b] t)).cell? ((⟨n, 0, none⟩ : Addr).add j) = some u := by
  subst h
  intro j u h
  match j with
  | 0 => simp [Cl.cells] at h; subst h; simp [Addr.add, go_sem]
  | 1 => simp [Cl.cells] at h; subst h; simp [Addr.add, go_sem]
  | 2 => simp [Cl.cells] at h; subst h; simp [Addr.add, go_sem]
  | j + 3 => simp [Cl.cells] at h
theorem crow_below {B : Nat} {w W W' : World} {n : Nat} {xs : List Value} {v : Value} {o : Obj} (hb : Below B w W) (hB : B ≤ w.heap.size) (hown : W.ownsRow B 43 3 v n xs) (hg : (W.alloc o).grownBy W' v.ownBlock) : Below B w W' := by
  have hs := hb.size
  exact (hb.alloc (by omega) o).grown hg (by simp; omega) fun g hg' => (hown.lt g hg').1
/-- Some columns of the call's own. -/
def OwnC (W : World) (B : Nat) (v : Value) (k : Nat) : Prop := ∃ cs : List Cl, W.ownsRow B 43 3 v k (ccellsOf cs)
theorem OwnC.snoc {W : World} {B : Nat} {v : Value} {k : Nat} {cs : List Cl} {x : Cl} (h : W.ownsRow B 43 3 v (k + 1) (ccellsOf cs ++ x.cells)) : OwnC W B v (k + 1) := ⟨cs ++ [x], by rw [ccells_snoc]; exact h⟩

end Go.Proofs.YtchebhdndkaheaaGreatDoor

/- The law's Cols once more: with word of the row's room, and of the names. -/
namespace Go.Proofs.YtchebhdndkaheaaGreatDoor
open Go.RowKit Go.Lib

theorem own_cap {W : World} {B : Nat} {t : TypeId} {s n : Nat} {v : Value} {xs : List Value} (h : W.ownsRow B t s v n xs) : ∀ A n' c', v = .slice A n' c' → n' ≤ c' := by
  rcases h.2 with ⟨rfl, h0⟩ | ⟨g, cap, cur, rfl, hB, hg, hc, _⟩
  · intro A n' c' e
    injection e with e1 e2 e3
    omega
  · intro A n' c' e
    injection e with e1 e2 e3
    omega
/-- Some columns of the call's own, with short names. -/
def OwnD (W : World) (B : Nat) (v : Value) (k : Nat) : Prop := ∃ cs : List Cl, W.ownsRow B 43 3 v k (ccellsOf cs) ∧ ∀ x ∈ cs, x.n.size ≤ 20
theorem OwnD.snoc {W : World} {B : Nat} {v : Value} {k : Nat} {cs : List Cl} {x : Cl} (h : W.ownsRow B 43 3 v (k + 1) (ccellsOf cs ++ x.cells)) (hc : ∀ y ∈ cs, y.n.size ≤ 20) (hx : x.n.size ≤ 20) : OwnD W B v (k + 1) := ⟨cs ++ [x], by rw [ccells_snoc]; exact h, fun y hy => by
  rcases List.mem_append.1 hy with hy | hy
  · exact hc y hy
  · simp only [List.mem_singleton] at hy
    subst hy
    exact hx⟩

set_option maxRecDepth 100000 in
set_option maxHeartbeats 4000000 in
theorem cols2_any (A : Option Addr) (n cap : Nat) (l : List Cl) (w : World) (hc : ColS w A n l) (hsz : ∀ x ∈ l, x.n.size ≤ maxLen) :
    Calls Tryz.prog 13 #[.slice A n cap] w fun e w' => (∃ A' n' c' cs, e = .returned (.slice A' n' c') ∧ ColS w' A' n' cs ∧ (∀ a, A' = some a → w.heap.size ≤ a.block) ∧ n' ≤ c' ∧ ∀ x ∈ cs, x.n.size ≤ 20) ∧ Below w.heap.size w w' := by
  have hn := hc.2.1
  unfold maxLen at hn
  have hll := hc.1
  obtain ⟨i0, hi, hz0, hz1, hz2⟩ := info_parts infoCol
  have HS := Lib.hid (And.intro hc hsz)
  clear hc hsz
  have HL := Lib.hid hll
  clear hll
  go_enter Tryz.func13, Tryz.ntmps13
  go_wp2
  go_loopw [3, 4] (fun v i wr => ∃ k : Nat, k ≤ n ∧ k ≤ 9 ∧ i = .int .i64 k ∧ Below w.heap.size w wr ∧ OwnD wr w.heap.size v k) (fun _ i _ => n - (intOf i).toNat)
  case atStart => exact ⟨0, by omega, by omega, rfl, Below.refl _ _, [], World.ownsRow_nil _ _ _ _, fun x hx => by cases hx⟩
  case round =>
    obtain ⟨k, hk, hk9, rfl, hb, hown⟩ := hrel
    have hbs := hb.size
    by_cases hlt : k < n
    · by_cases h9 : k < 9
      · have hd1 : decide ((k : Int) < 9) = true := decide_eq_true (by omega)
        obtain ⟨cs, hown, hcs⟩ := hown
        have HCS := Lib.hid hcs
        clear hcs
        obtain ⟨a, rfl, hA⟩ := HS.out.1.2.2 k (by rw [HL.out]; exact hlt)
        obtain ⟨x, hx⟩ : ∃ x, x = l[k]'(by rw [HL.out]; exact hlt) := ⟨_, rfl⟩
        rw [← hx] at hA
        have hxs : x.n.size ≤ 9223372036854775807 := (HS.out.2 x (by rw [hx]; exact List.getElem_mem _))
        have hA' := hA.keep (hb.block _ hA.lt)
        have ck := hA'.c0
        have ci := hA'.c1
        have ct := hA'.c2
        have HX := Lib.hid hxs
        clear hx hA hA'
        by_cases h20 : 20 < x.n.size
        · have hd2 : decide (20 < (x.n.size : Int)) = true := decide_eq_true (by omega)
          go_wp2_with (at_builtin; refine wpList_append_own _ rfl _ _ 22 rfl w.heap.size 43 i0 _ 3 32 Tryz.underlying22 hi hz0 hz1 hz2 rfl (by decide) _ _ _ rfl (World.ownsRow.alloc (World.ownsRow.alloc hown _) _) ⟨wr.heap.size + 1, 0, none⟩ 1 1 (Cl.cells ⟨x.n.extract 0 20, x.t, x.b⟩) rfl rfl ?e1 ?e2 ?e3 ?e4 ?e5 ?_)
          case e1 => exact new_ccells (x := ⟨x.n.extract 0 20, x.t, x.b⟩) (by simp)
          case e2 => intro u hu; exact ccells_one [⟨x.n.extract 0 20, x.t, x.b⟩] u (by simpa [ccellsOf] using hu)
          case e3 => unfold maxLen; omega
          case e4 => omega
          case e5 => simp; omega
          intro v' w2 hown' hgrow _
          have hb2 := crow_below (hb.alloc hbs _) (Nat.le_refl _) (World.ownsRow.alloc hown _) hgrow
          have HO := Lib.hid (OwnD.snoc hown' HCS.out (show (x.n.extract 0 20 : ByteArray).size ≤ 20 by rw [ByteArray.size_extract]; omega))
          clear hown' hown hgrow
          go_wp2
          go_roundw
          case rel => exact ⟨k + 1, by omega, by omega, by go_num, hb2, HO.out⟩
          case measure => simp [intOf]; omega
        · have hd2 : decide (20 < (x.n.size : Int)) = false := decide_eq_false (by omega)
          go_wp2_with (at_builtin; refine wpList_append_own _ rfl _ _ 22 rfl w.heap.size 43 i0 _ 3 32 Tryz.underlying22 hi hz0 hz1 hz2 rfl (by decide) _ _ _ rfl (World.ownsRow.alloc (World.ownsRow.alloc hown _) _) ⟨wr.heap.size + 1, 0, none⟩ 1 1 (Cl.cells ⟨x.n, x.t, x.b⟩) rfl rfl ?g1 ?g2 ?g3 ?g4 ?g5 ?_)
          case g1 => exact new_ccells (x := ⟨x.n, x.t, x.b⟩) (by simp)
          case g2 => intro u hu; exact ccells_one [⟨x.n, x.t, x.b⟩] u (by simpa [ccellsOf] using hu)
          case g3 => unfold maxLen; omega
          case g4 => omega
          case g5 => simp; omega
          intro v' w2 hown' hgrow _
          have hb2 := crow_below (hb.alloc hbs _) (Nat.le_refl _) (World.ownsRow.alloc hown _) hgrow
          have HO := Lib.hid (OwnD.snoc hown' HCS.out (show (x.n : ByteArray).size ≤ 20 by omega))
          clear hown' hown hgrow
          go_wp2
          go_roundw
          case rel => exact ⟨k + 1, by omega, by omega, by go_num, hb2, HO.out⟩
          case measure => simp [intOf]; omega
      · have hd1 : decide ((k : Int) < 9) = false := decide_eq_false (by omega)
        obtain ⟨cs, hown, hcs⟩ := hown
        have HO := Lib.hid hown
        have HCS := Lib.hid hcs
        clear hown hcs
        go_wp2
        go_ret
        obtain ⟨A', c', rfl, hC⟩ := ColS.of_own HO.out
        exact ⟨⟨_, _, _, _, rfl, hC.1, hC.2, own_cap HO.out _ _ _ rfl, HCS.out⟩, hb⟩
    · obtain ⟨cs, hown, hcs⟩ := hown
      have HO := Lib.hid hown
      have HCS := Lib.hid hcs
      clear hown hcs
      go_wp2
      go_ret
      obtain ⟨A', c', rfl, hC⟩ := ColS.of_own HO.out
      exact ⟨⟨_, _, _, _, rfl, hC.1, hC.2, own_cap HO.out _ _ _ rfl, HCS.out⟩, hb⟩
end Go.Proofs.YtchebhdndkaheaaGreatDoor

/- From a law's contract to its row: what is drawn of the condition on the listed variables, and of the world's shape. -/
namespace Go.Proofs.YtchebhdndkaheaaGreatDoor
open Go.ChangeShapes Go.WideShapes Go.ChangeAt Go.RowKit

theorem own : ownKnob Tryz.prog.godebug = none := by kernel_rfl

/-- The wrap that hands the contract the condition on the listed variables, the reach and the world's shape. -/
theorem returns_laid_shaped {H : Type} {enc : TypeId × Value → H} {a : Assume} {C : Checked} {os : Os} {f : FuncId} {fn : Func} {s : ChangeSpec} {conds : List PathCond} {apart fresh handsOn again : Bool} {X : World → Array Value → Prop}
    (hX : ∀ (w w' : World) (args : Array Value), w.heap = w'.heap → X w args → X w' args)
    (hown : ownKnob C.prog.godebug = none) (started : os.Started) (noInit : C.prog.inits.idxOf? f = none) (hfn : C.prog.funcs[f]? = some fn)
    (witness : ∃ (w : World) (tape : Tape) (i : Input), w.os = os ∧ (w.forCall tape i).Shaped C.prog ∧ i.vars = [] ∧ Input.okWide C.prog (w.forCall tape i) .any w.heap.size f i ∧
      ((s.pre enc C.prog fn conds apart (w.forCall tape i).memory i.args ∧ X (w.forCall tape i).memory i.args) ∧ sizedMet enc C.prog fn (OpenSpec.ofChange s) apart (w.forCall tape i).memory i.args) ∧ a.holds C.prog (lone (Frame.enter C.prog f i.args .normal) [] (w.forCall tape i)))
    (contract : ∀ (W : World) (base : Nat) (args : Array Value) (ds gs : List (DataW H)) (before : List MemPlace),
      (∀ (j : Nat) t v, fn.params[j]? = some t → args[j]? = some v → Value.okWide C.prog W .any base t v) →
      DataW.Whole enc C.prog fn.params.toList s.vars apart W args.toList ds gs before →
      X W args → W.ShapedOpen C.prog →
      Calls C.prog f args W fun e W' => ∃ v, e = .returned v ∧ s.post enc C.prog fn apart fresh handsOn again W args v W') :
    ReturnsInHanded a C os f .any (fun w args => (s.pre enc C.prog fn conds apart w args ∧ X w args) ∧ sizedMet enc C.prog fn (OpenSpec.ofChange s) apart w args) (s.post enc C.prog fn apart fresh handsOn again) := by
  refine returnsInHanded_of_calls hown started noInit witness ?_
  intro w tape i _ hsh _ hok hpre hholds
  obtain ⟨_, _, _, fn', hfn', _, _, _, _, hval⟩ := hok
  have e : fn' = fn := Option.some.inj (hfn'.symm.trans hfn)
  subst e
  obtain ⟨⟨⟨ds, gs, before, hw, hc⟩, hx⟩, hz⟩ := hpre
  have hw' := DataW.Whole.of_heap (w' := w.forCall tape i) (by rfl) hw
  refine (contract (w.forCall tape i) w.heap.size i.args ds gs before hval hw' (hX _ _ _ (by rfl) hx) hsh).mono fun e W' ⟨v, he, hp⟩ => ?_
  subst he
  exact ChangeSpec.post_blind hp

/-- internal/bytealg.MaxLen holds some int. -/
theorem maxLen_cell {W : World} (h : W.ShapedOpen Tryz.prog) : ∃ m, W.cell? ⟨0, 0, none⟩ = some (.int .i64 m) :=
  cell_of_shapedOpen_int h (of_decide_eq_true (by kernel_rfl)) (show ((begin Tryz.prog (fun _ _ => 0) default).world.heap[0]?).bind Obj.row? = some (#[.int .i64 0], 3) by kernel_rfl) rfl (by kernel_rfl) (by kernel_rfl) Tryz.underlying3

theorem cellsV : Tryz.prog.cellsOf 26 = 3 := by kernel_rfl
end Go.Proofs.YtchebhdndkaheaaGreatDoor
