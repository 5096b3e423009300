import Derived.Test.YtnahejljelbbgaaDoorLj
import Derived.Laws.AppendOwnNone
/- The law LexerBlanks. -/
namespace Go.Proofs.YtnahejljelbbgaaDoor
open Go.RowKit Go.Lib

theorem append_tok {ops : Array Oper} {rest : List Oper} {o : Oper} {a : Act} {Q : Exit → Act → World → Prop} {W : World} (hgd : o.guard = none) (s x : Operand)
    (ho : o.op = .call { callee := .builtin .append, args := #[s, x], argTypes := #[35, 35] }) (B C : Nat) (v u : Value) (l m : List Tk) (hs : a.eval s = v) (hx : a.eval x = u)
    (hown : OwnT W B v l) (hou : OwnT W C u m) (hl : l.length + m.length ≤ 1000) (hB : B ≤ W.heap.size)
    (h : ∀ v' w', OwnT w' B v' (l ++ m) → W.grownBy w' v.ownBlock → wpList Tryd.prog ops Q rest (a.put o.dst v') w') : wpList Tryd.prog ops Q (o :: rest) a W := by
  obtain ⟨i0, hi, hz0, hz1, hz2⟩ := info_parts infoTok
  have hou' := hou
  rcases hou.2 with ⟨rfl, h0⟩ | ⟨g, cap, cur, rfl, hbg, hg, hc, hm, hcs, htake⟩
  · obtain rfl : m = [] := List.length_eq_zero_iff.1 h0
    exact wpList_append_own_none hgd s x _ ho B 42 i0 2 Tryd.underlying35 hi v l.length (tcells l) hs hown hx (h v W (by simpa using hown) ⟨rfl, rfl, rfl, Nat.le_refl _, fun _ _ _ => rfl⟩)
  · refine wpList_append_own _ hgd s x _ ho B 42 i0 _ 2 24 Tryd.underlying35 hi hz0 hz1 hz2 rfl (by decide) v l.length (tcells l) hs hown ⟨g, 0, none⟩ m.length cap (tcells m) hx hou.1 ?_ (tcells_one m) (by unfold maxLen; omega) (by omega) hB ?_
    · intro j c hj
      have hj' : j < (tcells m).length := (List.getElem?_eq_some_iff.1 hj).1
      have hadd : (⟨g, 0, none⟩ : Addr).add j = ⟨g, j, none⟩ := by unfold Addr.add; split <;> simp_all
      rw [hadd, World.ownsRow.cellAt hou' j (by rw [← hou.1]; exact hj')]
      exact hj
    · intro v' w' h2 h3 _
      refine h v' w' ?_ h3
      show w'.ownsRow _ _ 2 v' (l ++ m).length _
      rw [List.length_append, tcells_app]
      exact h2
theorem lit_tok (w : World) (B : Nat) (hB : B ≤ w.heap.size) : OwnT (w.alloc (.cells #[] 42)) B (.slice (some ⟨w.heap.size, 0, none⟩) 0 0) [] := World.ownsRow_lit w #[] 0 hB (by unfold maxLen; omega) rfl
theorem Toks.none (W : World) (B : Nat) : Toks W B none 0 [] := ⟨rfl, fun j hj => absurd hj (by simp)⟩
theorem cut_two (s : ByteArray) (w : World) (hs : s.size ≤ 100000) (hl : LibE w) (ts : List Tk) (h : cutR s.data.toList = some ts) (n : Nat) (hn : ts.length = n) :
    Calls Tryd.prog 14 #[.string s] w fun e w' => ∃ A cap, e = .returned (.tuple #[.slice A n cap, .int .i64 0]) ∧ Hid (OwnT w' w.heap.size (.slice A n cap) ts ∧ Toks w' w'.heap.size A n ts) ∧ Below w.heap.size w w' :=
  (cut_ok s w hs hl ts h).mono fun e w' ⟨v, h1, h2, hb⟩ => by
    obtain ⟨A, cap, rfl, ht⟩ := h2.out.toks
    subst hn
    exact ⟨A, cap, h1, ⟨h2.out, ht⟩, hb⟩
theorem cut_some (s : ByteArray) (w : World) (hs : s.size ≤ 100000) (hl : LibE w) :
    Calls Tryd.prog 14 #[.string s] w fun e w' => ∃ v E, e = .returned (.tuple #[v, .int .i64 E]) ∧ Below w.heap.size w w' :=
  (cut_any s w hs hl).mono fun e w' ⟨hc, hb⟩ => by
    rcases hc with ⟨v, ts, _, h2, _⟩ | ⟨_, h2⟩
    · exact ⟨v, 0, h2, hb⟩
    · exact ⟨_, 2, h2, hb⟩
theorem same_self (A : Option Addr) (cap : Nat) (A' : Option Addr) (cap' : Nat) (l : List Tk) (n : Nat) (hn : n ≤ 100000) (W : World) (hv : Toks W W.heap.size A n l) (hv' : Toks W W.heap.size A' n l) :
    Calls Tryd.prog 15 #[.slice A n cap, .slice A' n cap'] W fun e w' => e = .returned (.bool true) ∧ Below W.heap.size W w' := by
  have := sameT_any A n cap l A' n cap' l W hn hn hv hv'
  rwa [sameTL_self] at this

/-- A blank, and so many times an end of a line and a blank. -/
def blO : Nat → List UInt8
  | 0 => [32]
  | j + 1 => blO j ++ [10, 32]
theorem blO_blank : ∀ j, ∀ c ∈ blO j, blankB c = true
  | 0, c, h => by simp [blO] at h; subst h; decide
  | j + 1, c, h => by
    simp only [blO, List.mem_append] at h
    rcases h with h | h
    · exact blO_blank j c h
    · simp at h
      rcases h with rfl | rfl <;> decide
theorem blO_ne (j : Nat) : blO j ≠ [] := by cases j <;> simp [blO]
theorem blO_len : ∀ j, (blO j).length = 1 + 2 * j
  | 0 => rfl
  | j + 1 => by simp [blO, blO_len j]; omega
theorem app3 (a b c : ByteArray) : (a ++ b ++ c).data.toList = a.data.toList ++ b.data.toList ++ c.data.toList := by simp
theorem cutR_ends (j : Nat) (s : List UInt8) : cutR (blO j ++ s ++ blO j) = cutR s := by unfold cutR; rw [cut_ends (blO_blank j)]
theorem cutR_get {l : List UInt8} {ts : List Tk} (h : cutR l = some ts) : cut l = some ts ∧ ts.length ≤ 400 := by
  unfold cutR at h
  cases hc : cut l with
  | none => rw [hc] at h; cases h
  | some x =>
    rw [hc] at h
    simp only at h
    split at h
    · rename_i hl; obtain rfl := Option.some.inj h; exact ⟨rfl, hl⟩
    · cases h
theorem cutR_between {j : Nat} {s t : List UInt8} {x y : List Tk} (hs : cutR s = some x) (ht : cutR t = some y) (hl : x.length + y.length ≤ 400) : cutR (s ++ blO j ++ t) = some (x ++ y) :=
  cutR_some (cut_between (blO_blank j) (blO_ne j) (cutR_get hs).1 (cutR_get ht).1) (by simp; omega)

set_option maxRecDepth 100000 in
set_option maxHeartbeats 3200000 in
theorem blanks_1 (s t : ByteArray) (b : Int) (w : World) (hs : s.size ≤ maxLen) (ht : t.size ≤ maxLen) (hb0 : 0 ≤ b) (hb1 : b ≤ 255) (hl : LibE w) (f g : ByteArray) (hf : f = few3S s) (hg : g = few3S t) (h1 : cutR f.data.toList = none) :
    Calls Tryd.prog 4 #[.string s, .string t, .int .u8 b] w fun e w' => e = .returned (.bool true) ∧ Below w.heap.size w w' := by
  have HL := Lib.hid hl
  have HLE := fun (W : World) (h : Below w.heap.size w W) => HL.out.keep h (Nat.le_refl _)
  have hfz : f.size ≤ 1200 := by rw [hf]; exact few3_size s
  have hgz : g.size ≤ 1200 := by rw [hg]; exact few3_size t
  have HF := Lib.hid (fun (W : World) => hf ▸ few3s_any s W hs)
  have HG := Lib.hid (fun (W : World) => hg ▸ few3s_any t W ht)
  obtain ⟨m, hm⟩ : ∃ m : Nat, b % 5 = (m : Int) := ⟨(b % 5).toNat, by omega⟩
  have hm4 : m ≤ 4 := by omega
  have hmt : b.tmod 5 = (m : Int) := by rw [Int.tmod_eq_emod_of_nonneg hb0]; exact hm
  have hmw : IntKind.u8.wrap (m : Int) = (m : Int) := by simp [IntKind.wrap, IntKind.signed, IntKind.bits]; omega
  have hmi : IntKind.i64.wrap (m : Int) = (m : Int) := IntWalk.i64_in _ (by omega)
  have HC1 := Lib.hid h1
  clear hf hg hm hl h1
  go_enter Tryd.func4, Tryd.ntmps4
  go_wp2_with (first
    | (go_at_call_of 13 (Value.string s); refine (HF.out _).mono ?_; rintro e w1 ⟨rfl, hb1⟩; have hy1 := hb1.size; (try simp at hy1))
    | (go_at_call_of 13 (Value.string t); refine (HG.out _).mono ?_; rintro e w2 ⟨rfl, hb2⟩; have hy2 := hb2.size; (try simp at hy2))
    | (go_at_call_of 14 (Value.string f); refine (cut_no f _ (by omega) (HLE _ (by repeat (first | (with_reducible exact Below.refl _ _) | ((with_reducible refine cSet3 ?_ ?_ _ _ _); (· ((try simp) <;> omega))) | (with_reducible refine Below.drew ?_) | ((with_reducible refine cAlloc ?_ ?_ _); (· ((try simp) <;> omega))) | ((with_reducible refine cOn (by assumption) ?_ ?_); (· ((try simp) <;> omega)))))) HC1.out).mono ?_; rintro e w3 ⟨rfl, hb3⟩; have hy3 := hb3.size; (try simp at hy3))
    | (go_at_call_of 14 (Value.string g); refine (cut_some g _ (by omega) (HLE _ (by repeat (first | (with_reducible exact Below.refl _ _) | ((with_reducible refine cSet3 ?_ ?_ _ _ _); (· ((try simp) <;> omega))) | (with_reducible refine Below.drew ?_) | ((with_reducible refine cAlloc ?_ ?_ _); (· ((try simp) <;> omega))) | ((with_reducible refine cOn (by assumption) ?_ ?_); (· ((try simp) <;> omega))))))).mono ?_; rintro e w4 ⟨v4, E4, rfl, hb4⟩; have hy4 := hb4.size; (try simp at hy4)))
  go_loop [11, 12] (fun sv i => ∃ (S : ByteArray) (j : Nat), sv = .string S ∧ i = .int .i64 j ∧ j ≤ m ∧ S.size = 1 + 2 * j ∧ Hid (S.data.toList = blO j)) (fun _ i => m - (intOf i).toNat)
  case atStart => exact ⟨⟨#[32]⟩, 0, rfl, rfl, by omega, rfl, rfl⟩
  case round =>
    obtain ⟨S, j, rfl, rfl, hj, hS, HS⟩ := hrel
    by_cases hlt : j < m
    · have hlt' : (j : Int) < (m : Int) := by omega
      have q2 : (⟨#[10, 32]⟩ : ByteArray).size = 2 := rfl
      have hwj : IntKind.i64.wrap ((j : Int) + 1) = (j : Int) + 1 := IntWalk.i64_in _ (by omega)
      go_wp2
      go_round
      case rel => exact ⟨_, j + 1, rfl, by go_num, by omega, by rw [ByteArray.size_append, q2]; omega, by show _ = _; rw [blO, ← HS.out]; simp⟩
      case measure => simp [intOf]; omega
    · obtain rfl : j = m := by omega
      have hz1 : (S ++ f ++ S).size ≤ 100000 := by rw [ByteArray.size_append, ByteArray.size_append]; omega
      have hz2 : (S ++ f).size ≤ 100000 := by rw [ByteArray.size_append]; omega
      have hz3 : (f ++ S ++ g).size ≤ 100000 := by rw [ByteArray.size_append, ByteArray.size_append]; omega
      have hz4 : (f ++ S).size ≤ 100000 := by rw [ByteArray.size_append]; omega
      have HC3 := Lib.hid (show cutR (S ++ f ++ S).data.toList = cutR f.data.toList by rw [app3, HS.out, cutR_ends])
      go_wp2_with (first
    | (go_at_call 14; refine (cut_no (S ++ f ++ S) _ hz1 (HLE _ (by repeat (first | (with_reducible exact Below.refl _ _) | ((with_reducible refine cSet3 ?_ ?_ _ _ _); (· ((try simp) <;> omega))) | (with_reducible refine Below.drew ?_) | ((with_reducible refine cAlloc ?_ ?_ _); (· ((try simp) <;> omega))) | ((with_reducible refine cOn (by assumption) ?_ ?_); (· ((try simp) <;> omega)))))) (HC3.out.trans HC1.out)).mono ?_; rintro e w5 ⟨rfl, hb5⟩; have hy5 := hb5.size; (try simp at hy5))
    | (go_at_call 15; refine (same_self none 0 none 0 [] 0 (by omega) _ (Toks.none _ _) (Toks.none _ _)).mono ?_; rintro e w6 ⟨rfl, hb6⟩; have hy6 := hb6.size; (try simp at hy6))
    | (go_at_call 16; refine (awake3_any _ (HLE _ (by repeat (first | (with_reducible exact Below.refl _ _) | ((with_reducible refine cSet3 ?_ ?_ _ _ _); (· ((try simp) <;> omega))) | (with_reducible refine Below.drew ?_) | ((with_reducible refine cAlloc ?_ ?_ _); (· ((try simp) <;> omega))) | ((with_reducible refine cOn (by assumption) ?_ ?_); (· ((try simp) <;> omega))))))).mono ?_; rintro e w9 ⟨rfl, hb9⟩; have hy9 := hb9.size; (try simp at hy9)))
      go_ret
      refine ⟨rfl, ?_⟩
      repeat (first | (with_reducible exact Below.refl _ _) | ((with_reducible refine cSet3 ?_ ?_ _ _ _); (· ((try simp) <;> omega))) | (with_reducible refine Below.drew ?_) | ((with_reducible refine cAlloc ?_ ?_ _); (· ((try simp) <;> omega))) | ((with_reducible refine cOn (by assumption) ?_ ?_); (· ((try simp) <;> omega))))

set_option maxRecDepth 100000 in
set_option maxHeartbeats 3200000 in
theorem blanks_2 (s t : ByteArray) (b : Int) (w : World) (hs : s.size ≤ maxLen) (ht : t.size ≤ maxLen) (hb0 : 0 ≤ b) (hb1 : b ≤ 255) (hl : LibE w) (f g : ByteArray) (hf : f = few3S s) (hg : g = few3S t) (x : List Tk) (h1 : cutR f.data.toList = some x) (h2 : cutR g.data.toList = none) :
    Calls Tryd.prog 4 #[.string s, .string t, .int .u8 b] w fun e w' => e = .returned (.bool true) ∧ Below w.heap.size w w' := by
  have HL := Lib.hid hl
  have HLE := fun (W : World) (h : Below w.heap.size w W) => HL.out.keep h (Nat.le_refl _)
  have hfz : f.size ≤ 1200 := by rw [hf]; exact few3_size s
  have hgz : g.size ≤ 1200 := by rw [hg]; exact few3_size t
  have HF := Lib.hid (fun (W : World) => hf ▸ few3s_any s W hs)
  have HG := Lib.hid (fun (W : World) => hg ▸ few3s_any t W ht)
  obtain ⟨m, hm⟩ : ∃ m : Nat, b % 5 = (m : Int) := ⟨(b % 5).toNat, by omega⟩
  have hm4 : m ≤ 4 := by omega
  have hmt : b.tmod 5 = (m : Int) := by rw [Int.tmod_eq_emod_of_nonneg hb0]; exact hm
  have hmw : IntKind.u8.wrap (m : Int) = (m : Int) := by simp [IntKind.wrap, IntKind.signed, IntKind.bits]; omega
  have hmi : IntKind.i64.wrap (m : Int) = (m : Int) := IntWalk.i64_in _ (by omega)
  obtain ⟨n, hn⟩ : ∃ n, x.length = n := ⟨_, rfl⟩
  have hn4 : n ≤ 400 := by rw [← hn]; exact (cutR_get h1).2
  have HC1 := Lib.hid h1
  have HC2 := Lib.hid h2
  have HNX := Lib.hid hn
  clear hf hg hm hl h1 h2 hn
  go_enter Tryd.func4, Tryd.ntmps4
  go_wp2_with (first
    | (go_at_call_of 13 (Value.string s); refine (HF.out _).mono ?_; rintro e w1 ⟨rfl, hb1⟩; have hy1 := hb1.size; (try simp at hy1))
    | (go_at_call_of 13 (Value.string t); refine (HG.out _).mono ?_; rintro e w2 ⟨rfl, hb2⟩; have hy2 := hb2.size; (try simp at hy2))
    | (go_at_call_of 14 (Value.string f); refine (cut_two f _ (by omega) (HLE _ (by repeat (first | (with_reducible exact Below.refl _ _) | ((with_reducible refine cSet3 ?_ ?_ _ _ _); (· ((try simp) <;> omega))) | (with_reducible refine Below.drew ?_) | ((with_reducible refine cAlloc ?_ ?_ _); (· ((try simp) <;> omega))) | ((with_reducible refine cOn (by assumption) ?_ ?_); (· ((try simp) <;> omega)))))) x HC1.out n HNX.out).mono ?_; rintro e w3 ⟨A3, c3, rfl, HT3, hb3⟩; have hy3 := hb3.size; (try simp at hy3))
    | (go_at_call_of 14 (Value.string g); refine (cut_no g _ (by omega) (HLE _ (by repeat (first | (with_reducible exact Below.refl _ _) | ((with_reducible refine cSet3 ?_ ?_ _ _ _); (· ((try simp) <;> omega))) | (with_reducible refine Below.drew ?_) | ((with_reducible refine cAlloc ?_ ?_ _); (· ((try simp) <;> omega))) | ((with_reducible refine cOn (by assumption) ?_ ?_); (· ((try simp) <;> omega)))))) HC2.out).mono ?_; rintro e w4 ⟨rfl, hb4⟩; have hy4 := hb4.size; (try simp at hy4)))
  go_loop [11, 12] (fun sv i => ∃ (S : ByteArray) (j : Nat), sv = .string S ∧ i = .int .i64 j ∧ j ≤ m ∧ S.size = 1 + 2 * j ∧ Hid (S.data.toList = blO j)) (fun _ i => m - (intOf i).toNat)
  case atStart => exact ⟨⟨#[32]⟩, 0, rfl, rfl, by omega, rfl, rfl⟩
  case round =>
    obtain ⟨S, j, rfl, rfl, hj, hS, HS⟩ := hrel
    by_cases hlt : j < m
    · have hlt' : (j : Int) < (m : Int) := by omega
      have q2 : (⟨#[10, 32]⟩ : ByteArray).size = 2 := rfl
      have hwj : IntKind.i64.wrap ((j : Int) + 1) = (j : Int) + 1 := IntWalk.i64_in _ (by omega)
      go_wp2
      go_round
      case rel => exact ⟨_, j + 1, rfl, by go_num, by omega, by rw [ByteArray.size_append, q2]; omega, by show _ = _; rw [blO, ← HS.out]; simp⟩
      case measure => simp [intOf]; omega
    · obtain rfl : j = m := by omega
      have hz1 : (S ++ f ++ S).size ≤ 100000 := by rw [ByteArray.size_append, ByteArray.size_append]; omega
      have hz2 : (S ++ f).size ≤ 100000 := by rw [ByteArray.size_append]; omega
      have hz3 : (f ++ S ++ g).size ≤ 100000 := by rw [ByteArray.size_append, ByteArray.size_append]; omega
      have hz4 : (f ++ S).size ≤ 100000 := by rw [ByteArray.size_append]; omega
      have HC3 := Lib.hid (show cutR (S ++ f ++ S).data.toList = cutR f.data.toList by rw [app3, HS.out, cutR_ends])
      go_wp2_with (first
    | (go_at_call_of 14 (Value.string (S ++ f ++ S)); refine (cut_two (S ++ f ++ S) _ hz1 (HLE _ (by repeat (first | (with_reducible exact Below.refl _ _) | ((with_reducible refine cSet3 ?_ ?_ _ _ _); (· ((try simp) <;> omega))) | (with_reducible refine Below.drew ?_) | ((with_reducible refine cAlloc ?_ ?_ _); (· ((try simp) <;> omega))) | ((with_reducible refine cOn (by assumption) ?_ ?_); (· ((try simp) <;> omega)))))) x (HC3.out.trans HC1.out) n HNX.out).mono ?_; rintro e w5 ⟨A5, c5, rfl, HT5, hb5⟩; have hy5 := hb5.size; (try simp at hy5))
    | (go_at_call_of 15 (Value.slice A3 n c3); refine (same_self A3 c3 A5 c5 x n (by omega) _ ((HT3.out.2.later hb4).later hb5) HT5.out.2).mono ?_; rintro e w6 ⟨rfl, hb6⟩; have hy6 := hb6.size; (try simp at hy6))
    | (go_at_call 16; refine (awake3_any _ (HLE _ (by repeat (first | (with_reducible exact Below.refl _ _) | ((with_reducible refine cSet3 ?_ ?_ _ _ _); (· ((try simp) <;> omega))) | (with_reducible refine Below.drew ?_) | ((with_reducible refine cAlloc ?_ ?_ _); (· ((try simp) <;> omega))) | ((with_reducible refine cOn (by assumption) ?_ ?_); (· ((try simp) <;> omega))))))).mono ?_; rintro e w9 ⟨rfl, hb9⟩; have hy9 := hb9.size; (try simp at hy9)))
      go_ret
      refine ⟨rfl, ?_⟩
      repeat (first | (with_reducible exact Below.refl _ _) | ((with_reducible refine cSet3 ?_ ?_ _ _ _); (· ((try simp) <;> omega))) | (with_reducible refine Below.drew ?_) | ((with_reducible refine cAlloc ?_ ?_ _); (· ((try simp) <;> omega))) | ((with_reducible refine cOn (by assumption) ?_ ?_); (· ((try simp) <;> omega))))

set_option maxRecDepth 100000 in
set_option maxHeartbeats 3200000 in
theorem blanks_3 (s t : ByteArray) (b : Int) (w : World) (hs : s.size ≤ maxLen) (ht : t.size ≤ maxLen) (hb0 : 0 ≤ b) (hb1 : b ≤ 255) (hl : LibE w) (f g : ByteArray) (hf : f = few3S s) (hg : g = few3S t) (x y : List Tk) (h1 : cutR f.data.toList = some x) (h2 : cutR g.data.toList = some y) (h3 : 400 < x.length + y.length) :
    Calls Tryd.prog 4 #[.string s, .string t, .int .u8 b] w fun e w' => e = .returned (.bool true) ∧ Below w.heap.size w w' := by
  have HL := Lib.hid hl
  have HLE := fun (W : World) (h : Below w.heap.size w W) => HL.out.keep h (Nat.le_refl _)
  have hfz : f.size ≤ 1200 := by rw [hf]; exact few3_size s
  have hgz : g.size ≤ 1200 := by rw [hg]; exact few3_size t
  have HF := Lib.hid (fun (W : World) => hf ▸ few3s_any s W hs)
  have HG := Lib.hid (fun (W : World) => hg ▸ few3s_any t W ht)
  obtain ⟨m, hm⟩ : ∃ m : Nat, b % 5 = (m : Int) := ⟨(b % 5).toNat, by omega⟩
  have hm4 : m ≤ 4 := by omega
  have hmt : b.tmod 5 = (m : Int) := by rw [Int.tmod_eq_emod_of_nonneg hb0]; exact hm
  have hmw : IntKind.u8.wrap (m : Int) = (m : Int) := by simp [IntKind.wrap, IntKind.signed, IntKind.bits]; omega
  have hmi : IntKind.i64.wrap (m : Int) = (m : Int) := IntWalk.i64_in _ (by omega)
  obtain ⟨n, hn⟩ : ∃ n, x.length = n := ⟨_, rfl⟩
  have hn4 : n ≤ 400 := by rw [← hn]; exact (cutR_get h1).2
  obtain ⟨n', hn'⟩ : ∃ n, y.length = n := ⟨_, rfl⟩
  have hn4' : n' ≤ 400 := by rw [← hn']; exact (cutR_get h2).2
  rw [hn, hn'] at h3
  have HC1 := Lib.hid h1
  have HC2 := Lib.hid h2
  have HNX := Lib.hid hn
  have HNY := Lib.hid hn'
  have h3' : (400 : Int) < (n : Int) + (n' : Int) := by omega
  have hwn : IntKind.i64.wrap ((n : Int) + (n' : Int)) = (n : Int) + (n' : Int) := IntWalk.i64_in _ (by omega)
  clear hf hg hm hl h1 h2 hn hn'
  go_enter Tryd.func4, Tryd.ntmps4
  go_wp2_with (first
    | (go_at_call_of 13 (Value.string s); refine (HF.out _).mono ?_; rintro e w1 ⟨rfl, hb1⟩; have hy1 := hb1.size; (try simp at hy1))
    | (go_at_call_of 13 (Value.string t); refine (HG.out _).mono ?_; rintro e w2 ⟨rfl, hb2⟩; have hy2 := hb2.size; (try simp at hy2))
    | (go_at_call_of 14 (Value.string f); refine (cut_two f _ (by omega) (HLE _ (by repeat (first | (with_reducible exact Below.refl _ _) | ((with_reducible refine cSet3 ?_ ?_ _ _ _); (· ((try simp) <;> omega))) | (with_reducible refine Below.drew ?_) | ((with_reducible refine cAlloc ?_ ?_ _); (· ((try simp) <;> omega))) | ((with_reducible refine cOn (by assumption) ?_ ?_); (· ((try simp) <;> omega)))))) x HC1.out n HNX.out).mono ?_; rintro e w3 ⟨A3, c3, rfl, HT3, hb3⟩; have hy3 := hb3.size; (try simp at hy3))
    | (go_at_call_of 14 (Value.string g); refine (cut_two g _ (by omega) (HLE _ (by repeat (first | (with_reducible exact Below.refl _ _) | ((with_reducible refine cSet3 ?_ ?_ _ _ _); (· ((try simp) <;> omega))) | (with_reducible refine Below.drew ?_) | ((with_reducible refine cAlloc ?_ ?_ _); (· ((try simp) <;> omega))) | ((with_reducible refine cOn (by assumption) ?_ ?_); (· ((try simp) <;> omega)))))) y HC2.out n' HNY.out).mono ?_; rintro e w4 ⟨A4, c4, rfl, HT4, hb4⟩; have hy4 := hb4.size; (try simp at hy4)))
  go_loop [11, 12] (fun sv i => ∃ (S : ByteArray) (j : Nat), sv = .string S ∧ i = .int .i64 j ∧ j ≤ m ∧ S.size = 1 + 2 * j ∧ Hid (S.data.toList = blO j)) (fun _ i => m - (intOf i).toNat)
  case atStart => exact ⟨⟨#[32]⟩, 0, rfl, rfl, by omega, rfl, rfl⟩
  case round =>
    obtain ⟨S, j, rfl, rfl, hj, hS, HS⟩ := hrel
    by_cases hlt : j < m
    · have hlt' : (j : Int) < (m : Int) := by omega
      have q2 : (⟨#[10, 32]⟩ : ByteArray).size = 2 := rfl
      have hwj : IntKind.i64.wrap ((j : Int) + 1) = (j : Int) + 1 := IntWalk.i64_in _ (by omega)
      go_wp2
      go_round
      case rel => exact ⟨_, j + 1, rfl, by go_num, by omega, by rw [ByteArray.size_append, q2]; omega, by show _ = _; rw [blO, ← HS.out]; simp⟩
      case measure => simp [intOf]; omega
    · obtain rfl : j = m := by omega
      have hz1 : (S ++ f ++ S).size ≤ 100000 := by rw [ByteArray.size_append, ByteArray.size_append]; omega
      have hz2 : (S ++ f).size ≤ 100000 := by rw [ByteArray.size_append]; omega
      have hz3 : (f ++ S ++ g).size ≤ 100000 := by rw [ByteArray.size_append, ByteArray.size_append]; omega
      have hz4 : (f ++ S).size ≤ 100000 := by rw [ByteArray.size_append]; omega
      have HC3 := Lib.hid (show cutR (S ++ f ++ S).data.toList = cutR f.data.toList by rw [app3, HS.out, cutR_ends])
      go_wp2_with (first
    | (go_at_call_of 14 (Value.string (S ++ f ++ S)); refine (cut_two (S ++ f ++ S) _ hz1 (HLE _ (by repeat (first | (with_reducible exact Below.refl _ _) | ((with_reducible refine cSet3 ?_ ?_ _ _ _); (· ((try simp) <;> omega))) | (with_reducible refine Below.drew ?_) | ((with_reducible refine cAlloc ?_ ?_ _); (· ((try simp) <;> omega))) | ((with_reducible refine cOn (by assumption) ?_ ?_); (· ((try simp) <;> omega)))))) x (HC3.out.trans HC1.out) n HNX.out).mono ?_; rintro e w5 ⟨A5, c5, rfl, HT5, hb5⟩; have hy5 := hb5.size; (try simp at hy5))
    | (go_at_call_of 15 (Value.slice A3 n c3); refine (same_self A3 c3 A5 c5 x n (by omega) _ ((HT3.out.2.later hb4).later hb5) HT5.out.2).mono ?_; rintro e w6 ⟨rfl, hb6⟩; have hy6 := hb6.size; (try simp at hy6))
    | (go_at_call 16; refine (awake3_any _ (HLE _ (by repeat (first | (with_reducible exact Below.refl _ _) | ((with_reducible refine cSet3 ?_ ?_ _ _ _); (· ((try simp) <;> omega))) | (with_reducible refine Below.drew ?_) | ((with_reducible refine cAlloc ?_ ?_ _); (· ((try simp) <;> omega))) | ((with_reducible refine cOn (by assumption) ?_ ?_); (· ((try simp) <;> omega))))))).mono ?_; rintro e w9 ⟨rfl, hb9⟩; have hy9 := hb9.size; (try simp at hy9)))
      go_ret
      refine ⟨rfl, ?_⟩
      repeat (first | (with_reducible exact Below.refl _ _) | ((with_reducible refine cSet3 ?_ ?_ _ _ _); (· ((try simp) <;> omega))) | (with_reducible refine Below.drew ?_) | ((with_reducible refine cAlloc ?_ ?_ _); (· ((try simp) <;> omega))) | ((with_reducible refine cOn (by assumption) ?_ ?_); (· ((try simp) <;> omega))))

set_option maxRecDepth 100000 in
set_option maxHeartbeats 3200000 in
theorem blanks_4 (s t : ByteArray) (b : Int) (w : World) (hs : s.size ≤ maxLen) (ht : t.size ≤ maxLen) (hb0 : 0 ≤ b) (hb1 : b ≤ 255) (hl : LibE w) (f g : ByteArray) (hf : f = few3S s) (hg : g = few3S t) (x y : List Tk) (h1 : cutR f.data.toList = some x) (h2 : cutR g.data.toList = some y) (h3 : x.length + y.length ≤ 400) :
    Calls Tryd.prog 4 #[.string s, .string t, .int .u8 b] w fun e w' => e = .returned (.bool true) ∧ Below w.heap.size w w' := by
  have HL := Lib.hid hl
  have HLE := fun (W : World) (h : Below w.heap.size w W) => HL.out.keep h (Nat.le_refl _)
  have hfz : f.size ≤ 1200 := by rw [hf]; exact few3_size s
  have hgz : g.size ≤ 1200 := by rw [hg]; exact few3_size t
  have HF := Lib.hid (fun (W : World) => hf ▸ few3s_any s W hs)
  have HG := Lib.hid (fun (W : World) => hg ▸ few3s_any t W ht)
  obtain ⟨m, hm⟩ : ∃ m : Nat, b % 5 = (m : Int) := ⟨(b % 5).toNat, by omega⟩
  have hm4 : m ≤ 4 := by omega
  have hmt : b.tmod 5 = (m : Int) := by rw [Int.tmod_eq_emod_of_nonneg hb0]; exact hm
  have hmw : IntKind.u8.wrap (m : Int) = (m : Int) := by simp [IntKind.wrap, IntKind.signed, IntKind.bits]; omega
  have hmi : IntKind.i64.wrap (m : Int) = (m : Int) := IntWalk.i64_in _ (by omega)
  obtain ⟨n, hn⟩ : ∃ n, x.length = n := ⟨_, rfl⟩
  have hn4 : n ≤ 400 := by rw [← hn]; exact (cutR_get h1).2
  obtain ⟨n', hn'⟩ : ∃ n, y.length = n := ⟨_, rfl⟩
  have hn4' : n' ≤ 400 := by rw [← hn']; exact (cutR_get h2).2
  rw [hn, hn'] at h3
  have HC1 := Lib.hid h1
  have HC2 := Lib.hid h2
  have HNX := Lib.hid hn
  have HNY := Lib.hid hn'
  have HC4 := Lib.hid (fun (j : Nat) => cutR_between (j := j) h1 h2 (by omega))
  have h3' : ¬ (400 : Int) < (n : Int) + (n' : Int) := by omega
  have hwn : IntKind.i64.wrap ((n : Int) + (n' : Int)) = (n : Int) + (n' : Int) := IntWalk.i64_in _ (by omega)
  clear hf hg hm hl h1 h2 hn hn'
  go_enter Tryd.func4, Tryd.ntmps4
  go_wp2_with (first
    | (go_at_call_of 13 (Value.string s); refine (HF.out _).mono ?_; rintro e w1 ⟨rfl, hb1⟩; have hy1 := hb1.size; (try simp at hy1))
    | (go_at_call_of 13 (Value.string t); refine (HG.out _).mono ?_; rintro e w2 ⟨rfl, hb2⟩; have hy2 := hb2.size; (try simp at hy2))
    | (go_at_call_of 14 (Value.string f); refine (cut_two f _ (by omega) (HLE _ (by repeat (first | (with_reducible exact Below.refl _ _) | ((with_reducible refine cSet3 ?_ ?_ _ _ _); (· ((try simp) <;> omega))) | (with_reducible refine Below.drew ?_) | ((with_reducible refine cAlloc ?_ ?_ _); (· ((try simp) <;> omega))) | ((with_reducible refine cOn (by assumption) ?_ ?_); (· ((try simp) <;> omega)))))) x HC1.out n HNX.out).mono ?_; rintro e w3 ⟨A3, c3, rfl, HT3, hb3⟩; have hy3 := hb3.size; (try simp at hy3))
    | (go_at_call_of 14 (Value.string g); refine (cut_two g _ (by omega) (HLE _ (by repeat (first | (with_reducible exact Below.refl _ _) | ((with_reducible refine cSet3 ?_ ?_ _ _ _); (· ((try simp) <;> omega))) | (with_reducible refine Below.drew ?_) | ((with_reducible refine cAlloc ?_ ?_ _); (· ((try simp) <;> omega))) | ((with_reducible refine cOn (by assumption) ?_ ?_); (· ((try simp) <;> omega)))))) y HC2.out n' HNY.out).mono ?_; rintro e w4 ⟨A4, c4, rfl, HT4, hb4⟩; have hy4 := hb4.size; (try simp at hy4)))
  go_loop [11, 12] (fun sv i => ∃ (S : ByteArray) (j : Nat), sv = .string S ∧ i = .int .i64 j ∧ j ≤ m ∧ S.size = 1 + 2 * j ∧ Hid (S.data.toList = blO j)) (fun _ i => m - (intOf i).toNat)
  case atStart => exact ⟨⟨#[32]⟩, 0, rfl, rfl, by omega, rfl, rfl⟩
  case round =>
    obtain ⟨S, j, rfl, rfl, hj, hS, HS⟩ := hrel
    by_cases hlt : j < m
    · have hlt' : (j : Int) < (m : Int) := by omega
      have q2 : (⟨#[10, 32]⟩ : ByteArray).size = 2 := rfl
      have hwj : IntKind.i64.wrap ((j : Int) + 1) = (j : Int) + 1 := IntWalk.i64_in _ (by omega)
      go_wp2
      go_round
      case rel => exact ⟨_, j + 1, rfl, by go_num, by omega, by rw [ByteArray.size_append, q2]; omega, by show _ = _; rw [blO, ← HS.out]; simp⟩
      case measure => simp [intOf]; omega
    · obtain rfl : j = m := by omega
      have hz1 : (S ++ f ++ S).size ≤ 100000 := by rw [ByteArray.size_append, ByteArray.size_append]; omega
      have hz2 : (S ++ f).size ≤ 100000 := by rw [ByteArray.size_append]; omega
      have hz3 : (f ++ S ++ g).size ≤ 100000 := by rw [ByteArray.size_append, ByteArray.size_append]; omega
      have hz4 : (f ++ S).size ≤ 100000 := by rw [ByteArray.size_append]; omega
      have HC3 := Lib.hid (show cutR (S ++ f ++ S).data.toList = cutR f.data.toList by rw [app3, HS.out, cutR_ends])
      have HC5 := Lib.hid (show cutR (f ++ S ++ g).data.toList = some (x ++ y) by rw [app3, HS.out]; exact HC4.out _)
      have hxy : (x ++ y).length = n + n' := by rw [List.length_append, HNX.out, HNY.out]
      have HXY := Lib.hid hxy
      clear hxy
      go_wp2_with (first
    | (go_at_call_of 14 (Value.string (S ++ f ++ S)); refine (cut_two (S ++ f ++ S) _ hz1 (HLE _ (by repeat (first | (with_reducible exact Below.refl _ _) | ((with_reducible refine cSet3 ?_ ?_ _ _ _); (· ((try simp) <;> omega))) | (with_reducible refine Below.drew ?_) | ((with_reducible refine cAlloc ?_ ?_ _); (· ((try simp) <;> omega))) | ((with_reducible refine cOn (by assumption) ?_ ?_); (· ((try simp) <;> omega)))))) x (HC3.out.trans HC1.out) n HNX.out).mono ?_; rintro e w5 ⟨A5, c5, rfl, HT5, hb5⟩; have hy5 := hb5.size; (try simp at hy5))
    | (go_at_call_of 15 (Value.slice A3 n c3); refine (same_self A3 c3 A5 c5 x n (by omega) _ ((HT3.out.2.later hb4).later hb5) HT5.out.2).mono ?_; rintro e w6 ⟨rfl, hb6⟩; have hy6 := hb6.size; (try simp at hy6))
    | (go_at_call_of 14 (Value.string (f ++ S ++ g)); refine (cut_two (f ++ S ++ g) _ hz3 (HLE _ (by repeat (first | (with_reducible exact Below.refl _ _) | ((with_reducible refine cSet3 ?_ ?_ _ _ _); (· ((try simp) <;> omega))) | (with_reducible refine Below.drew ?_) | ((with_reducible refine cAlloc ?_ ?_ _); (· ((try simp) <;> omega))) | ((with_reducible refine cOn (by assumption) ?_ ?_); (· ((try simp) <;> omega)))))) (x ++ y) HC5.out (n + n') HXY.out).mono ?_; rintro e w7 ⟨A7, c7, rfl, HT7, hb7⟩; have hy7 := hb7.size; (try simp at hy7); have HO3 := Lib.hid ((((HT3.out.1.below hb4 (Nat.le_refl _)).below hb5 (Nat.le_refl _)).below hb6 (Nat.le_refl _)).below hb7 (Nat.le_refl _)); have HO4 := Lib.hid (((HT4.out.1.below hb5 (Nat.le_refl _)).below hb6 (Nat.le_refl _)).below hb7 (Nat.le_refl _)))
    | (at_builtin; refine append_tok rfl _ _ rfl w7.heap.size _ _ _ [] x rfl rfl (lit_tok w7 _ (Nat.le_refl _)) (HO3.out.alloc _) (by rw [HNX.out]; simp; omega) (by simp) ?_))
      intro v8 w8 ho8 hg8
      have hs8 := hg8.size
      simp at hs8
      have hb8 : Below w7.heap.size w7 w8 := ((Below.refl _ _).alloc (Nat.le_refl _) _).grown hg8 (by simp) fun g hg' => ((lit_tok w7 w7.heap.size (Nat.le_refl _)).lt g hg').1
      have HO8 : Hid (OwnT w8 w7.heap.size v8 x) := ho8
      have HO4' := Lib.hid (HO4.out.below hb8 (Nat.le_refl _))
      have HT7' := Lib.hid (HT7.out.2.later hb8)
      clear ho8 hg8
      go_wp2_with (at_builtin; refine append_tok rfl _ _ rfl w7.heap.size _ _ _ x y rfl rfl HO8.out HO4'.out (by rw [HNX.out, HNY.out]; omega) (by omega) ?_)
      intro v10 w10 ho10 hg10
      have hs10 := hg10.size
      have hb10 : Below w7.heap.size w7 w10 := hb8.grown hg10 (by omega) fun g hg' => (HO8.out.lt g hg').1
      have hb10' : Below w7.heap.size w8 w10 := (Below.refl _ _).grown hg10 (by omega) fun g hg' => (HO8.out.lt g hg').1
      have HT7'' := Lib.hid ((HT7.out.2.keep hb10).more (by omega : w7.heap.size ≤ w10.heap.size))
      obtain ⟨A10, c10, rfl, ht10⟩ := ho10.toks
      have HT10 : Hid (Toks w10 w10.heap.size A10 (n + n') (x ++ y)) := by
        show Toks _ _ _ _ _
        have := ht10
        rw [HXY.out] at this
        exact this
      have hlen : (x ++ y).length = n + n' := HXY.out
      rw [hlen]
      have hb10'' : Below w.heap.size w w10 := (show Below w.heap.size w w7 by repeat (first | (with_reducible exact Below.refl _ _) | ((with_reducible refine cSet3 ?_ ?_ _ _ _); (· ((try simp) <;> omega))) | (with_reducible refine Below.drew ?_) | ((with_reducible refine cAlloc ?_ ?_ _); (· ((try simp) <;> omega))) | ((with_reducible refine cOn (by assumption) ?_ ?_); (· ((try simp) <;> omega))))).trans (hb10.mono (by omega))
      clear ht10 ho10 hg10 hlen hb1 hb2 hb3 hb4 hb5 hb6 hb7 hb8 hb10 hb10'
      have hs0 := hb10''.size
      go_wp2_with (first
    | (go_at_call 15; refine (same_self A7 c7 A10 c10 (x ++ y) (n + n') (by omega) _ HT7''.out HT10.out).mono ?_; rintro e w11 ⟨rfl, hb11⟩; have hy11 := hb11.size; (try simp at hy11))
    | (go_at_call 16; refine (awake3_any _ (HLE _ (by repeat (first | (with_reducible exact Below.refl _ _) | ((with_reducible refine cSet3 ?_ ?_ _ _ _); (· ((try simp) <;> omega))) | (with_reducible refine Below.drew ?_) | ((with_reducible refine cAlloc ?_ ?_ _); (· ((try simp) <;> omega))) | ((with_reducible refine cOn (by assumption) ?_ ?_); (· ((try simp) <;> omega))))))).mono ?_; rintro e w9 ⟨rfl, hb9⟩; have hy9 := hb9.size; (try simp at hy9)))
      go_ret
      refine ⟨rfl, ?_⟩
      repeat (first | (with_reducible exact Below.refl _ _) | ((with_reducible refine cSet3 ?_ ?_ _ _ _); (· ((try simp) <;> omega))) | (with_reducible refine Below.drew ?_) | ((with_reducible refine cAlloc ?_ ?_ _); (· ((try simp) <;> omega))) | ((with_reducible refine cOn (by assumption) ?_ ?_); (· ((try simp) <;> omega))))

theorem u8_of_wf {n : Int} (h : (Lit.int .u8 n).wf = true) : IntKind.u8.wrap n = n := by
  simp only [Lit.wf, IntKind.min, IntKind.max, IntKind.signed, IntKind.bits, Bool.and_eq_true, decide_eq_true_eq, if_true] at h
  rw [IntKind.wrap_u8]
  simp at h
  omega
theorem law_blanks (s t : ByteArray) (b : Int) (w : World) (hs : s.size ≤ maxLen) (ht : t.size ≤ maxLen) (hb : IntKind.u8.wrap b = b) (hl : LibE w) :
    Calls Tryd.prog 4 #[.string s, .string t, .int .u8 b] w fun e w' => e = .returned (.bool true) ∧ Below w.heap.size w w' := by
  have hb' : 0 ≤ b ∧ b ≤ 255 := by rw [IntKind.wrap_u8] at hb; omega
  cases h1 : cutR (few3S s).data.toList with
  | none => exact blanks_1 s t b w hs ht hb'.1 hb'.2 hl _ _ rfl rfl h1
  | some x =>
    cases h2 : cutR (few3S t).data.toList with
    | none => exact blanks_2 s t b w hs ht hb'.1 hb'.2 hl _ _ rfl rfl x h1 h2
    | some y =>
      by_cases h3 : x.length + y.length ≤ 400
      · exact blanks_4 s t b w hs ht hb'.1 hb'.2 hl _ _ rfl rfl x y h1 h2 h3
      · exact blanks_3 s t b w hs ht hb'.1 hb'.2 hl _ _ rfl rfl x y h1 h2 (by omega)
end Go.Proofs.YtnahejljelbbgaaDoor
