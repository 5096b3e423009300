import Derived.Test.YtnahejljelbbgaaCf
/- The octets of a row: code.Row, and the document's own. -/
namespace Go.Proofs.Ytnahejljelbbgaa
open Go.RowKit Go.Lib

def Vl.may (x : Vl) : Bool := mayB x.k x.i x.s
def Vl.oct (x : Vl) : List UInt8 := valO x.k x.i x.s
def rowO (l : List Vl) : List UInt8 := l.flatMap Vl.oct
/-- Where the first one lies that may not be; -1: nowhere. -/
def idxN : List Vl → Int → Int
  | [], _ => -1
  | x :: l, k => if x.may then idxN l (k + 1) else k
theorem idxN_any : ∀ (l : List Vl) (k : Int), 0 ≤ k → decide (0 ≤ idxN l k) = !l.all Vl.may
  | [], _, _ => rfl
  | x :: l, k, hk => by
    unfold idxN
    cases h : x.may with
    | true => simp only [if_true, List.all_cons, h, Bool.true_and]; exact idxN_any l (k + 1) (by omega)
    | false => simp [h, hk]
theorem idxN_bd : ∀ (l : List Vl) (k : Int), 0 ≤ k → -1 ≤ idxN l k ∧ idxN l k ≤ k + l.length
  | [], k, hk => by simp [idxN]; omega
  | x :: l, k, hk => by
    unfold idxN
    have := idxN_bd l (k + 1) (by omega)
    split
    · simp; omega
    · simp; omega

set_option maxHeartbeats 800000 in
theorem mayNot_any (k i : Int) (s : ByteArray) (w : World) :
    Calls Try.prog 12 #[.agg #[.int .i64 k, .int .i64 i, .string s]] w fun e w' => e = .returned (.bool (!mayB k i s)) ∧ Below w.heap.size w w' := by
  go_enter Try.func12, Try.ntmps12
  go_wp2_with (first
    | (go_at_call 16; refine (may_any _ _ _ _).mono ?_; rintro e w1 ⟨rfl, hb1⟩; have hc1 := (bcell hb1).1; have hf1 := (bcell hb1).2; have hy1 := hb1.size; (try simp at hy1); have hz1_0 : w.heap.size < w1.heap.size := (by omega)))
  go_ret
  refine ⟨rfl, ?_⟩
  repeat (first | (with_reducible exact Below.refl _ _) | ((with_reducible refine cSet3 ?_ ?_ _ _ _); (· ((try simp) <;> omega))) | (with_reducible refine Below.drew ?_) | ((with_reducible refine cAlloc ?_ ?_ _); (· ((try simp) <;> omega))) | ((with_reducible refine cOn (by assumption) ?_ ?_); (· ((try simp) <;> omega))))

theorem drop_at {l : List Vl} {k : Nat} {x : Vl} (h : l[k]? = some x) : l.drop k = x :: l.drop (k + 1) := by
  obtain ⟨hk, rfl⟩ := List.getElem?_eq_some_iff.1 h
  exact List.drop_eq_getElem_cons hk
set_option maxRecDepth 100000 in
set_option maxHeartbeats 4000000 in
theorem indexFunc_any (A : Option Addr) (n cap : Nat) (l : List Vl) (w : World) (hn : n ≤ 1000) (hv : Vals w w.heap.size A n l) :
    Calls Try.prog 19 #[.slice A n cap, .func (.func 12) #[] #[]] w fun e w' => e = .returned (.int .i64 (idxN l 0)) ∧ Below w.heap.size w w' := by
  have HV := Lib.hid hv
  have HL := Lib.hid hv.1
  clear hv
  go_enter Try.func19, Try.ntmps19
  go_wp2
  go_loopw [8] (fun i wr => ∃ k : Nat, k ≤ n ∧ i = .int .i64 k ∧ Below w.heap.size w wr ∧ Hid (idxN l 0 = idxN (l.drop k) k)) (fun i _ => n - (intOf i).toNat)
  case atStart => exact ⟨0, by omega, rfl, Below.refl _ _, by show _ = _; simp⟩
  case round =>
    obtain ⟨k, hk, rfl, hb, HI⟩ := hrel
    have hbs := hb.size
    by_cases hlt : k < n
    · skip
      obtain ⟨a, x, rfl, hx, hA, hB⟩ := HV.out.at_ hlt
      have hA' := hA.keep hb (by rw [add_block]; exact hB)
      have ck := hA'.k
      have ci := hA'.i
      have cs := hA'.s
      have HX := Lib.hid hx
      clear hx hA hA'
      cases hm : x.may with
      | true =>
        have HM := Lib.hid hm
        clear hm
        go_wp2_with (go_at_call 12; refine ((mayNot_any x.k x.i x.s _).mono (fun _ _ h => ((show mayB x.k x.i x.s = true from HM.out) ▸ h : _ = Ending.returned (.bool (!true)) ∧ _))).mono ?_; rintro e w1 ⟨rfl, hb1⟩)
        go_roundw
        case rel => exact ⟨k + 1, by omega, by go_num, hb.trans (hb1.mono hbs), by show _ = _; rw [HI.out, drop_at HX.out, idxN, HM.out]; simp⟩
        case measure => simp [intOf]; omega
      | false =>
        have HM := Lib.hid hm
        clear hm
        go_wp2_with (go_at_call 12; refine ((mayNot_any x.k x.i x.s _).mono (fun _ _ h => ((show mayB x.k x.i x.s = false from HM.out) ▸ h : _ = Ending.returned (.bool (!false)) ∧ _))).mono ?_; rintro e w1 ⟨rfl, hb1⟩)
        go_ret
        exact ⟨ret_int (by rw [HI.out, drop_at HX.out, idxN, HM.out]; simp), hb.trans (hb1.mono hbs)⟩
    · go_wp2
      go_ret
      exact ⟨ret_int (by rw [HI.out, List.drop_of_length_le (by have := HL.out; omega)]; rfl), hb⟩

set_option maxRecDepth 100000 in
set_option maxHeartbeats 4000000 in
theorem containsFunc_any (A : Option Addr) (n cap : Nat) (l : List Vl) (w : World) (hn : n ≤ 1000) (hv : Vals w w.heap.size A n l) :
    Calls Try.prog 11 #[.slice A n cap, .func (.func 12) #[] #[]] w fun e w' => e = .returned (.bool (!l.all Vl.may)) ∧ Below w.heap.size w w' := by
  have HV := Lib.hid hv
  have HE := Lib.hid (idxN_any l 0 (by omega))
  clear hv
  go_enter Try.func11, Try.ntmps11
  go_wp2_with (go_at_call 19; refine (indexFunc_any A n cap l _ hn HV.out).mono ?_; rintro e w1 ⟨rfl, hb1⟩)
  go_ret
  exact ⟨ret_bool HE.out, hb1⟩

/-- A builder that holds these octets. -/
def Bld (W : World) (B b : Nat) (l : List UInt8) : Prop := Lib.IsBuilder 40 5 B b (byteCells l) W
theorem Bld.keep {W W' : World} {B b C : Nat} {l : List UInt8} (h : Bld W B b l) (hb : Below C W W') (hC : W.heap.size ≤ C) : Bld W' B b l := by
  have key : ∀ p, Lib.BuilderAt 40 5 B b p (byteCells l) W → Lib.BuilderAt 40 5 B b p (byteCells l) W' := by
    rintro p ⟨h1, v, h2, h3, h4⟩
    have hlt : b < W.heap.size := (Array.getElem?_eq_some_iff.1 h2).1
    refine ⟨h1, v, (hb.block b (by omega)).trans h2, h3.kept (row := none) ⟨hb.os, hb.tape, hb.output, hb.size, fun q hq _ => hb.block q (by omega)⟩ ?_, h4⟩
    cases h : Value.ownBlock v with
    | none => exact .inl rfl
    | some _ => exact .inr (by simp)
  exact Or.imp (key _) (key _) h
theorem Bld.written {W' : World} {B b : Nat} {l r : List UInt8} {p : Value} (h : Lib.BuilderAt 40 5 B b p (byteCells l ++ Lib.strCells ⟨r.toArray⟩) W') (hp : p = .pointer (some ⟨b, 0, none⟩)) : Bld W' B b (l ++ r) := by
  subst hp
  unfold Bld
  rw [byteCells_app]
  exact .inr h
theorem Bld.fresh {W : World} {B b : Nat} (hb : b = W.heap.size) (hB : B ≤ b) : Bld (W.alloc (.cells #[.pointer none, .slice none 0 0] 40)) B b [] := by
  subst hb
  exact .inl ⟨hB, _, heap_alloc_new W _, World.ownsRow_nil _ _ _ _, by simp [Value.ownBlock]⟩
theorem sz_mk (l : List UInt8) : (⟨l.toArray⟩ : ByteArray).size = l.length := by simp [ByteArray.size]
theorem byteCells_len (l : List UInt8) : (byteCells l).length = l.length := by simp [byteCells]
theorem valO_len (k i : Int) (s : ByteArray) : (valO k i s).length ≤ 42 := by
  unfold valO
  split
  · rename_i hm
    split
    · simp [be8]
    · split
      · rename_i h2
        subst h2
        unfold mayB at hm
        simp at hm
        simp
        omega
      · split <;> simp
  · simp
theorem rowO_len (l : List Vl) : (rowO l).length ≤ l.length * 42 := by
  induction l with
  | nil => simp [rowO]
  | cons x l ih =>
    have := valO_len x.k x.i x.s
    simp only [rowO, List.flatMap_cons, List.length_append, List.length_cons] at ih ⊢
    unfold Vl.oct at ih ⊢
    omega
theorem rowO_snoc (l : List Vl) (x : Vl) : rowO (l ++ [x]) = rowO l ++ x.oct := by simp [rowO]
theorem take_at {l : List Vl} {k : Nat} {x : Vl} (h : l[k]? = some x) : rowO (l.take (k + 1)) = rowO (l.take k) ++ valO x.k x.i x.s := by
  rw [take_snoc' h, rowO_snoc]; rfl

def rowOk (l : List Vl) : Bool := decide (l.length ≤ 12) && l.all Vl.may
def I64 (l : List Vl) : Prop := ∀ x ∈ l, In64 x.i
def Short (l : List Vl) : Prop := ∀ x ∈ l, x.s.size ≤ maxLen

set_option maxRecDepth 100000 in
set_option maxHeartbeats 4000000 in
theorem row_long (A : Option Addr) (n cap : Nat) (l : List Vl) (w : World) (hn : n ≤ 1000) (hv : Vals w w.heap.size A n l) (hi : I64 l) (h12 : 12 < n) :
    Calls Try.prog 5 #[.slice A n cap] w fun e w' => e = .returned (.tuple #[.string ⟨#[]⟩, .int .i64 1]) ∧ Below w.heap.size w w' := by
  have HV := Lib.hid hv
  have HL := Lib.hid hv.1
  have HI := Lib.hid hi
  clear hv hi
  go_enter Try.func5, Try.ntmps5
  go_wp2
  go_ret2
  exact ⟨rfl, Below.refl _ _⟩

set_option maxRecDepth 100000 in
set_option maxHeartbeats 4000000 in
theorem row_bad (A : Option Addr) (n cap : Nat) (l : List Vl) (w : World) (hn : n ≤ 1000) (hv : Vals w w.heap.size A n l) (hi : I64 l) (h12 : n ≤ 12) (hm : l.all Vl.may = false) :
    Calls Try.prog 5 #[.slice A n cap] w fun e w' => e = .returned (.tuple #[.string ⟨#[]⟩, .int .i64 1]) ∧ Below w.heap.size w w' := by
  have HV := Lib.hid hv
  have HL := Lib.hid hv.1
  have HI := Lib.hid hi
  clear hv hi
  have HM := Lib.hid hm
  clear hm
  go_enter Try.func5, Try.ntmps5
  go_wp2_with (go_at_call 11; refine ((containsFunc_any A n cap l _ hn HV.out).mono (fun _ _ h => (HM.out ▸ h : _ = Ending.returned (.bool (!false)) ∧ _))).mono ?_; rintro e w1 ⟨rfl, hb1⟩)
  go_ret2
  exact ⟨rfl, hb1⟩

set_option maxRecDepth 100000 in
set_option maxHeartbeats 4000000 in
theorem row_yes (A : Option Addr) (n cap : Nat) (l : List Vl) (w : World) (hn : n ≤ 1000) (hv : Vals w w.heap.size A n l) (hi : I64 l) (h12 : n ≤ 12) (hm : l.all Vl.may = true) :
    Calls Try.prog 5 #[.slice A n cap] w fun e w' => e = .returned (.tuple #[.string ⟨(rowO l).toArray⟩, .int .i64 0]) ∧ Below w.heap.size w w' := by
  have HV := Lib.hid hv
  have HL := Lib.hid hv.1
  have HI := Lib.hid hi
  clear hv hi
  have HM := Lib.hid hm
  clear hm
  go_enter Try.func5, Try.ntmps5
  go_wp2_with (go_at_call 11; refine ((containsFunc_any A n cap l _ hn HV.out).mono (fun _ _ h => (HM.out ▸ h : _ = Ending.returned (.bool (!true)) ∧ _))).mono ?_; rintro e w1 ⟨rfl, hb1⟩)
  have HB1 := Lib.hid hb1
  have hs1 := hb1.size
  clear hb1
  go_loopw [16] (fun i wr => ∃ k : Nat, k ≤ n ∧ i = .int .i64 k ∧ Below w.heap.size w wr ∧ Bld wr w.heap.size w1.heap.size (rowO (l.take k))) (fun i _ => n - (intOf i).toNat)
  case atStart => exact ⟨0, by omega, rfl, HB1.out.alloc hs1 _, Bld.fresh rfl hs1⟩
  case round =>
    obtain ⟨k, hk, rfl, hb, hbl⟩ := hrel
    have hbs := hb.size
    have HBL := Lib.hid hbl
    clear hbl
    by_cases hlt : k < n
    · skip
      obtain ⟨a, x, rfl, hx, hA, hB⟩ := HV.out.at_ hlt
      have hA' := hA.keep hb (by rw [add_block]; exact hB)
      have ck := hA'.k
      have ci := hA'.i
      have cs := hA'.s
      have HX := Lib.hid hx
      clear hx hA hA'
      have hlen := rowO_len (l.take k)
      have hlk : (l.take k).length ≤ 12 := by simp; omega
      have HLE := Lib.hid (show (rowO (l.take k)).length ≤ 504 by omega)
      clear hlen hlk
      go_wp2_with (first
        | (go_at_call 8; refine (value_any x.k x.i x.s _ (HI.out x (List.mem_of_getElem? HX.out))).mono ?_; rintro e w2 ⟨rfl, hb2⟩; have HB2 := Lib.hid hb2; have hs2 := hb2.size; clear hb2; (try simp at hs2))
        | (go_at_call 13; refine (write_any w.heap.size w1.heap.size (byteCells (rowO (l.take k))) _ w2 ((HBL.out.keep ((Below.refl wr.heap.size wr).alloc (Nat.le_refl _) _) (Nat.le_refl _)).keep HB2.out (Nat.le_refl _)) (by rw [byteCells_len]; have := HLE.out; have h := valO_len x.k x.i x.s; have h2 := sz_mk (valO x.k x.i x.s); omega) (by omega)).mono ?_; rintro e w3 ⟨rfl, hbl3, hb3⟩))
      go_roundw
      case rel => exact ⟨k + 1, by omega, by go_num, ((hb.alloc hbs _).trans (HB2.out.mono (by simp; omega))).trans hb3, by rw [take_at HX.out]; exact Bld.written hbl3 rfl⟩
      case measure => simp [intOf]; omega
    · have HE := Lib.hid (show l.take k = l from List.take_of_length_le (by have := HL.out; omega))
      go_wp2_with (go_at_call 14; refine (Try.Builder_String_any w.heap.size w1.heap.size (rowO l) wr (by have h := HBL.out; rw [HE.out] at h; exact h) hbs).mono ?_; rintro e w3 ⟨rfl, hb3⟩)
      go_ret2
      exact ⟨rfl, hb.trans hb3⟩

def rowE (l : List Vl) : Int := if rowOk l then 0 else 1
def rowS (l : List Vl) : ByteArray := if rowOk l then ⟨(rowO l).toArray⟩ else ⟨#[]⟩
theorem row_any (A : Option Addr) (n cap : Nat) (l : List Vl) (w : World) (hn : n ≤ 1000) (hv : Vals w w.heap.size A n l) (hi : I64 l) :
    Calls Try.prog 5 #[.slice A n cap] w fun e w' => e = .returned (.tuple #[.string (rowS l), .int .i64 (rowE l)]) ∧ Below w.heap.size w w' := by
  have hl := hv.1
  unfold rowS rowE rowOk
  by_cases h : n ≤ 12
  · rw [decide_eq_true (show l.length ≤ 12 by omega)]
    cases hm : l.all Vl.may with
    | true => exact row_yes A n cap l w hn hv hi h hm
    | false => exact row_bad A n cap l w hn hv hi h hm
  · rw [decide_eq_false (show ¬ l.length ≤ 12 by omega)]
    exact row_long A n cap l w hn hv hi (by omega)

theorem rowO_size (l : List Vl) (h : l.length ≤ 1000) : (rowO l).length ≤ 42000 := by have := rowO_len l; omega
end Go.Proofs.Ytnahejljelbbgaa
