import Derived.Test.YtchebhdndkaheaaGreatDoorW11
import Derived.Test.YtchebhdndkaheaaGreatDoorW08
import Derived.Test.YtchebhdndkaheaaGreatDoorW10
import Derived.Shelf.Strings.OnBuilder
import Derived.Ground.GgwProg
import Derived.Test.YtchebhdndkaheaaGreatDoorProg
import Derived.Shelf.Lays
import Derived.Test.YtchebhdndkaheaaGreatDoorW03
import Derived.Test.YtchebhdndkaheaaGreatDoorW09
import Derived.Test.YtchebhdndkaheaaGreatDoorW06
import Derived.Test.YtchebhdndkaheaaGreatDoorRows
import Derived.Test.YtchebhdndkaheaaGreatDoorW02
import Derived.Lib.LaidTab
import Derived.Stop.LaidErr
import Derived.MakeChecks

/- The document's: a right is the same as itself. -/
namespace Go.Proofs.YtchebhdndkaheaaGreatDoor
open Go.RowKit Go.Lib

/-- Two rights in the two blocks behind w's. -/
structure Bxr (w : World) (op tb ro : ByteArray) (W : World) : Prop where
  lo : Below w.heap.size w W
  a : W.heap[w.heap.size]? = some (.cells #[.string op, .string tb, .string ⟨#[]⟩, .slice none 0 0, .slice none 0 0, .string ⟨#[]⟩, .slice none 0 0, .slice none 0 0, .string ⟨#[]⟩, .int .i64 0, .int .i64 0, .string ⟨#[]⟩, .string ⟨#[]⟩, .slice none 0 0, .slice none 0 0, .slice none 0 0, .string ⟨#[]⟩, .int .i64 0, .int .i64 0, .string ⟨#[]⟩, .string ⟨#[]⟩, .slice none 0 0, .string ro] 61 (0, 0))
  b : W.heap[w.heap.size + 1]? = some (.cells #[.string op, .string tb, .string ⟨#[]⟩, .slice none 0 0, .slice none 0 0, .string ⟨#[]⟩, .slice none 0 0, .slice none 0 0, .string ⟨#[]⟩, .int .i64 0, .int .i64 0, .string ⟨#[]⟩, .string ⟨#[]⟩, .slice none 0 0, .slice none 0 0, .slice none 0 0, .string ⟨#[]⟩, .int .i64 0, .int .i64 0, .string ⟨#[]⟩, .string ⟨#[]⟩, .slice none 0 0, .string ro] 61 (0, 0))
section
variable {w W W' : World} {op tb ro : ByteArray}
theorem Bxr.step (h : Bxr w op tb ro W) (hb : Below W.heap.size W W') : Bxr w op tb ro W' :=
  ⟨h.lo.trans (hb.mono h.lo.size), (hb.block _ (lt_of_block h.a)).trans h.a, (hb.block _ (lt_of_block h.b)).trans h.b⟩
theorem Bxr.ca (h : Bxr w op tb ro W) (j : Nat) : W.cell? ⟨w.heap.size, j, none⟩ = (#[.string op, .string tb, .string ⟨#[]⟩, .slice none 0 0, .slice none 0 0, .string ⟨#[]⟩, .slice none 0 0, .slice none 0 0, .string ⟨#[]⟩, .int .i64 0, .int .i64 0, .string ⟨#[]⟩, .string ⟨#[]⟩, .slice none 0 0, .slice none 0 0, .slice none 0 0, .string ⟨#[]⟩, .int .i64 0, .int .i64 0, .string ⟨#[]⟩, .string ⟨#[]⟩, .slice none 0 0, .string ro] : Array Value)[j]? := Lib.cell_of_heap h.a j
theorem Bxr.cb (h : Bxr w op tb ro W) (j : Nat) : W.cell? ⟨w.heap.size + 1, j, none⟩ = (#[.string op, .string tb, .string ⟨#[]⟩, .slice none 0 0, .slice none 0 0, .string ⟨#[]⟩, .slice none 0 0, .slice none 0 0, .string ⟨#[]⟩, .int .i64 0, .int .i64 0, .string ⟨#[]⟩, .string ⟨#[]⟩, .slice none 0 0, .slice none 0 0, .slice none 0 0, .string ⟨#[]⟩, .int .i64 0, .int .i64 0, .string ⟨#[]⟩, .string ⟨#[]⟩, .slice none 0 0, .string ro] : Array Value)[j]? := Lib.cell_of_heap h.b j
theorem Bxr.start (w : World) (op tb ro : ByteArray) : Bxr w op tb ro ((w.alloc (.cells #[.string op, .string tb, .string ⟨#[]⟩, .slice none 0 0, .slice none 0 0, .string ⟨#[]⟩, .slice none 0 0, .slice none 0 0, .string ⟨#[]⟩, .int .i64 0, .int .i64 0, .string ⟨#[]⟩, .string ⟨#[]⟩, .slice none 0 0, .slice none 0 0, .slice none 0 0, .string ⟨#[]⟩, .int .i64 0, .int .i64 0, .string ⟨#[]⟩, .string ⟨#[]⟩, .slice none 0 0, .string ro] 61)).alloc (.cells #[.string op, .string tb, .string ⟨#[]⟩, .slice none 0 0, .slice none 0 0, .string ⟨#[]⟩, .slice none 0 0, .slice none 0 0, .string ⟨#[]⟩, .int .i64 0, .int .i64 0, .string ⟨#[]⟩, .string ⟨#[]⟩, .slice none 0 0, .slice none 0 0, .slice none 0 0, .string ⟨#[]⟩, .int .i64 0, .int .i64 0, .string ⟨#[]⟩, .string ⟨#[]⟩, .slice none 0 0, .string ro] 61)) :=
  ⟨((Below.refl _ _).alloc (Nat.le_refl _) _).alloc (by simp) _, (Below.heap_alloc _ _ _ (by simp)).trans (alloc_at rfl _), alloc_at (by simp) _⟩
end

end Go.Proofs.YtchebhdndkaheaaGreatDoor

/- The statement parser at a right: what comes of any tokens behind GRANT READ and the like. -/
namespace Go.Proofs.YtchebhdndkaheaaGreatDoor
open Go.RowKit Go.Lib

section
variable {l : List Tn} {st : Nat × Bool} {p : Tn → Bool}
end
end Go.Proofs.YtchebhdndkaheaaGreatDoor

/- The statement parser: statements that hold memory of their own. -/
namespace Go.Proofs.YtchebhdndkaheaaGreatDoor
open Go.RowKit Go.Lib

/-- What is said of a statement's cells, whose blocks lie from n on. -/
structure Kp (C : Nat → World → Array Value → Prop) : Prop where
  mono : ∀ {n m : Nat} {W : World} {cs : Array Value}, C n W cs → m ≤ n → C m W cs
  keep : ∀ {n : Nat} {W W' : World} {cs : Array Value}, C n W cs → (∀ b, n ≤ b → b < W.heap.size → W'.heap[b]? = W.heap[b]?) → C n W' cs
  one : ∀ {n : Nat} {W : World} {cs : Array Value}, C n W cs → cs.all (·.oneCell') = true
  size : ∀ {n : Nat} {W : World} {cs : Array Value}, C n W cs → cs.size = 23
section
variable {C : Nat → World → Array Value → Prop} {n : Nat} {W W' : World} {cs : Array Value}
theorem Kp.below (k : Kp C) (h : C n W cs) (hb : Below W.heap.size W W') : C n W' cs := k.keep h fun b _ hl => hb.block b hl
theorem Kp.alloc (k : Kp C) (h : C n W cs) (o : Obj) : C n (W.alloc o) cs := k.below h ((Below.refl _ _).alloc (Nat.le_refl _) o)
theorem Kp.row (k : Kp C) (h : C n W cs) {b : Nat} (hb : b < n) (x : Array Value) : C n (W.setRow b x) cs := k.keep h fun q hq _ => setRow_other _ _ _ _ (by omega)
end

end Go.Proofs.YtchebhdndkaheaaGreatDoor

/- Expressions within statements: 'k = 1', and values that stand alone. -/
namespace Go.Proofs.YtchebhdndkaheaaGreatDoor
open Go.RowKit Go.Lib

theorem fm_k : fmT (colT ⟨#[107]⟩) = true := by rw [fm_colT, show nameB ⟨#[107]⟩ = true by decide, res_no (by decide)]; rfl
theorem w_k (d : Nat) (m : Int) (h : 1 ≤ m) : withinF (d + 1) (colT ⟨#[107]⟩) m = (true, m - 1) := within_leaf fm_k rfl h
end Go.Proofs.YtchebhdndkaheaaGreatDoor

/- The statement parser: an expression; WHERE; SELECT. -/
namespace Go.Proofs.YtchebhdndkaheaaGreatDoor
open Go.RowKit Go.Lib

section
variable {w W W' : World} {g : Nat} {A : Option Addr} {c : Nat} {l : List Tn} {at' at2 : Nat} {failed f2 : Bool} {t : Ex} {u : Value} {N b : Nat}
end

end Go.Proofs.YtchebhdndkaheaaGreatDoor

/- The statement parser: WHERE; SELECT. -/
namespace Go.Proofs.YtchebhdndkaheaaGreatDoor
open Go.RowKit Go.Lib

end Go.Proofs.YtchebhdndkaheaaGreatDoor

/- The statement parser: a value. -/
namespace Go.Proofs.YtchebhdndkaheaaGreatDoor
open Go.RowKit Go.Lib

end Go.Proofs.YtchebhdndkaheaaGreatDoor

/- The statement parser: INSERT: one value more. -/
namespace Go.Proofs.YtchebhdndkaheaaGreatDoor
open Go.RowKit Go.Lib

theorem own_ge {W : World} {b : Nat} {e : TypeId} {sz n : Nat} {v : Value} {xs : List Value} (h : W.ownsRow b e sz v n xs) : ∀ q, v.ownBlock = some q → b ≤ q := fun q hq => by
  rcases h.2 with ⟨rfl, _⟩ | ⟨r, cap, cur, rfl, hr, _⟩
  · cases hq
  · have : r = q := by simpa [Value.ownBlock] using hq
    omega
section
variable {w W W' : World} {g : Nat} {a : Addr} {c sb : Nat} {v v' : Value} {k k' : Nat} {rv rv' : List Vl} {at' at2 : Nat}
end
end Go.Proofs.YtchebhdndkaheaaGreatDoor

/- The statement parser: INSERT: its values; the statement. -/
namespace Go.Proofs.YtchebhdndkaheaaGreatDoor
open Go.RowKit Go.Lib

end Go.Proofs.YtchebhdndkaheaaGreatDoor

/- The statement parser: INSERT INTO t VALUES (1, 'a', NULL). -/
namespace Go.Proofs.YtchebhdndkaheaaGreatDoor
open Go.RowKit Go.Lib

end Go.Proofs.YtchebhdndkaheaaGreatDoor

/- Contracts of the library that this program comes to, laid at its own numbers by the kit's own programs (lay-shelf.mjs, lay-plain.mjs). -/
namespace Go.Proofs
open Go.Shelf
def Tryz.lays156_ren : Go.Shelf.Ren := ⟨fun | 156 => 107 | 165 => 139 | 166 => 140 | 169 => 141 | 240 => 161 | 241 => 162 | 276 => 183 | 277 => 184 | n => n, fun | 31 => 57 | 9 => 9 | 3 => 3 | 4 => 4 | 0 => 0 | 20 => 20 | 72 => 164 | 76 => 168 | 70 => 161 | 37 => 162 | 75 => 167 | 127 => 180 | 164 => 202 | 5 => 5 | 80 => 170 | n => n, fun | n => n⟩
theorem Tryz.lays156 : Go.Proofs.Lays.n156 Tryz.prog Tryz.lays156_ren := {
  mixed := by kernel_rfl
  f156 := Tryz.func107.trans (congrArg some (by kernel_rfl))
  f165 := Tryz.func139.trans (congrArg some (by kernel_rfl))
  f166 := Tryz.func140.trans (congrArg some (by kernel_rfl))
  f169 := Tryz.func141.trans (congrArg some (by kernel_rfl))
  f240 := Tryz.func161.trans (congrArg some (by kernel_rfl))
  f241 := Tryz.func162.trans (congrArg some (by kernel_rfl))
  f276 := Tryz.func183.trans (congrArg some (by kernel_rfl))
  f277 := Tryz.func184.trans (congrArg some (by kernel_rfl))
  t0 := Tryz.underlying0
  a0 := Tryz.isAgg0
  z0 := Tryz.sizeOf0
  v0 := Tryz.zeroValue0
  t3 := Tryz.underlying3
  a3 := Tryz.isAgg3
  z3 := Tryz.sizeOf3
  v3 := Tryz.zeroValue3
  t4 := Tryz.underlying4
  a4 := Tryz.isAgg4
  z4 := Tryz.sizeOf4
  v4 := Tryz.zeroValue4
  t9 := Tryz.underlying9
  a9 := Tryz.isAgg9
  z9 := Tryz.sizeOf9
  v9 := Tryz.zeroValue9
  t20 := Tryz.underlying20
  a20 := Tryz.isAgg20
  z20 := Tryz.sizeOf20
  v20 := Tryz.zeroValue20
  t31 := Tryz.underlying57
  a31 := Tryz.isAgg57
  z31 := Tryz.sizeOf57
  v31 := Tryz.zeroValue57
  t37 := Tryz.underlying162
  a37 := Tryz.isAgg162
  z37 := Tryz.sizeOf162
  v37 := Tryz.zeroValue162
  t70 := Tryz.underlying161
  a70 := Tryz.isAgg161
  z70 := Tryz.sizeOf161
  v70 := Tryz.zeroValue161
  t72 := Tryz.underlying164
  a72 := Tryz.isAgg164
  z72 := Tryz.sizeOf164
  v72 := Tryz.zeroValue164
  t75 := Tryz.underlying167
  a75 := Tryz.isAgg167
  z75 := Tryz.sizeOf167
  v75 := Tryz.zeroValue167
  t76 := Tryz.underlying168
  a76 := Tryz.isAgg168
  z76 := Tryz.sizeOf168
  v76 := Tryz.zeroValue168
  t127 := Tryz.underlying180
  a127 := Tryz.isAgg180
  z127 := Tryz.sizeOf180
  v127 := Tryz.zeroValue180
  t164 := Tryz.underlying202
  a164 := Tryz.isAgg202
  z164 := Tryz.sizeOf202
  v164 := Tryz.zeroValue202 }
theorem Tryz.Builder_Extra_156 : Builder.Extra Tryz.prog Tryz.lays156_ren := {
  sizeBuilder := by kernel_rfl
  liesBuilder := by kernel_rfl
  t5 := Tryz.underlying5
  a5 := Tryz.isAgg5
  z5 := Tryz.sizeOf5
  v5 := Tryz.zeroValue5
  infoByte := by kernel_rfl
  cellsByte := by kernel_rfl
  sizeByte := by kernel_rfl
  neB5 := by decide }
open Go.RowKit in
theorem Tryz.strings_Join (bk o c : Nat) (xs : List ByteArray) (sep : ByteArray) (w : World) (hcells : ∀ (j : Nat) x, xs[j]? = some x → w.cell? ⟨bk, o + j, none⟩ = some (.string x)) (hbk : bk < w.heap.size) (hN : xs.length ≤ 140737488355328) (hcap : xs.length ≤ c) (hlen : (Lib.join (xs.map (·.data.toList)) sep.data.toList).length ≤ 140737488355328) :
    Calls Tryz.prog 107 #[.slice (some ⟨bk, o, none⟩) xs.length c, .string sep] w fun e w' => e = .returned (.string ⟨(Lib.join (xs.map (·.data.toList)) sep.data.toList).toArray⟩) ∧ Below w.heap.size w w' := Any.strings_Join Tryz.lays156 Tryz.Builder_Extra_156 bk o c xs sep w hcells hbk hN hcap hlen

end Go.Proofs

/- The text of 'k = 1', and of a WHERE of it. -/
namespace Go.Proofs.YtchebhdndkaheaaGreatDoor
open Go.RowKit Go.Lib

set_option maxRecDepth 100000 in
set_option maxHeartbeats 4000000 in
theorem written_k (u : Value) (w : World) : Calls Tryz.prog 182 #[.agg #[.string ⟨#[99, 111, 108]⟩, .int .i64 0, .int .i64 0, .string ⟨#[]⟩, .string ⟨#[107]⟩, u]] w fun e w' => e = .returned (.string ⟨#[107]⟩) ∧ Below w.heap.size w w' := by
  go_enter Tryz.func182, Tryz.ntmps182
  go_wp2_with (fail)
  go_ret
  exact ⟨rfl, (Below.refl _ _).alloc (Nat.le_refl _) _⟩
end Go.Proofs.YtchebhdndkaheaaGreatDoor

/- SELECT * FROM t WHERE k = 1 may be. -/
namespace Go.Proofs.YtchebhdndkaheaaGreatDoor
open Go.RowKit Go.Lib

theorem nmB_t : nmB ⟨#[116]⟩ = true := by
  unfold nmB
  rw [res_no (by decide), show nameB ⟨#[116]⟩ = true by decide]
  rfl
end Go.Proofs.YtchebhdndkaheaaGreatDoor

/- Rows of values within a statement: may each be; their texts, listed. -/
namespace Go.Proofs.YtchebhdndkaheaaGreatDoor
open Go.RowKit Go.Lib

theorem infoStr1 : (Tryz.prog.info? 9).map (fun i => (i.zero, i.size, i.bytes)) = some (some (.string ⟨#[]⟩), 1, 16) := by kernel_rfl
theorem new_str {W : World} {t : TypeId} {s : ByteArray} : ∀ j u, ([.string s] : List Value)[j]? = some u → (W.alloc (.cells #[.string s] t)).cell? ((⟨W.heap.size, 0, none⟩ : Addr).add j) = some u := by
  intro j u h
  match j with
  | 0 => simp at h; subst h; simp [Addr.add, go_sem]
  | j + 1 => simp at h
theorem below_own {w W W' : World} {v : Value} (hb : Below w.heap.size w W) (hge : ∀ q, v.ownBlock = some q → w.heap.size ≤ q) (hg : W.grownBy W' v.ownBlock) : Below w.heap.size w W' :=
  ⟨hg.os.trans hb.os, hg.tape.trans hb.tape, hg.output.trans hb.output, Nat.le_trans hb.size hg.size, fun q hq => (hg.block q (by have := hb.size; omega) (fun e => by have := hge q e.symm; omega)).trans (hb.block q hq)⟩
end Go.Proofs.YtchebhdndkaheaaGreatDoor

/- INSERT INTO t VALUES (1, 'a', NULL) may be. -/
namespace Go.Proofs.YtchebhdndkaheaaGreatDoor
open Go.RowKit Go.Lib

end Go.Proofs.YtchebhdndkaheaaGreatDoor

/- The chapter's example of layer 6: the text of k < 5. -/
namespace Go.Proofs.YtchebhdndkaheaaGreatDoor
open Go.RowKit Go.Lib

theorem fm_5 : fmT (litT ⟨1, 5, ⟨#[]⟩⟩) = true := fm_litT _ (may_int 5)
theorem w_5 (d : Nat) (m : Int) (h : 1 ≤ m) : withinF (d + 1) (litT ⟨1, 5, ⟨#[]⟩⟩) m = (true, m - 1) := within_leaf fm_5 rfl h
def leT : Ex := twoT ⟨#[60]⟩ (colT ⟨#[107]⟩) (litT ⟨1, 5, ⟨#[]⟩⟩)
theorem may_le : mayT leT = true := by unfold mayT; rw [show withinF 12 leT 60 = (true, 60 - 1 - 1 - 1) from within_two (fm_twoT _ _ _ (by rw [toList_data]; decide)) (by omega) (w_k 10 (60 - 1) (by omega)) (w_5 10 (60 - 1 - 1) (by omega))]

set_option maxRecDepth 100000 in
set_option maxHeartbeats 4000000 in
theorem upper_lt (w : World) : Calls Tryz.prog 200 #[.string ⟨#[60]⟩] w fun e w' => e = .returned (.string ⟨#[60]⟩) ∧ Below w.heap.size w w' := by
  go_enter Tryz.func200, Tryz.ntmps200
  go_wp2_with (fail)
  go_loopw [3, 4, 5] (fun a b v wr => ∃ j : Nat, j ≤ 1 ∧ v = .int .i64 j ∧ a = .bool true ∧ b = .bool false ∧ w = wr) (fun _ _ v _ => 1 - (intOf v).toNat)
  case atStart => exact ⟨0, by omega, rfl, rfl, rfl, rfl⟩
  case round =>
    obtain ⟨j, hj, rfl, rfl, rfl, rfl⟩ := hrel
    rcases (show j = 0 ∨ j = 1 by omega) with rfl | rfl
    · clear hj
      go_wp2_with (fail)
      go_roundw
      case rel => exact ⟨1, by omega, rfl, rfl, rfl, by first | rfl | trivial⟩
      case measure => simp [intOf]
    · clear hj
      go_wp2_with (fail)
      go_ret
      exact ⟨rfl, Below.refl _ _⟩
set_option maxRecDepth 100000 in
set_option maxHeartbeats 4000000 in
theorem xsame_nole (u : Value) (w : World) : Calls Tryz.prog 37 #[.agg #[.string ⟨#[60]⟩, .int .i64 0, .int .i64 0, .string ⟨#[]⟩, .string ⟨#[]⟩, u], .agg #[.string ⟨#[]⟩, .int .i64 0, .int .i64 0, .string ⟨#[]⟩, .string ⟨#[]⟩, .slice none 0 0]] w fun e w' => e = .returned (.bool false) ∧ Below w.heap.size w w' := by
  go_enter Tryz.func37, Tryz.ntmps37
  go_wp2_with (fail)
  go_ret
  exact ⟨rfl, ((Below.refl _ _).alloc (Nat.le_refl _) _).alloc (by simp) _⟩
set_option maxRecDepth 100000 in
set_option maxHeartbeats 4000000 in
theorem none_le (u : Value) (w : World) : Calls Tryz.prog 138 #[.agg #[.string ⟨#[60]⟩, .int .i64 0, .int .i64 0, .string ⟨#[]⟩, .string ⟨#[]⟩, u]] w fun e w' => e = .returned (.bool false) ∧ Below w.heap.size w w' := by
  go_enter Tryz.func138, Tryz.ntmps138
  go_wp2_with (go_at_call 37; (with_reducible refine (xsame_nole u _).mono ?_); rintro e w1 ⟨rfl, hb1⟩; have HB1 := Lib.hid hb1; clear hb1)
  go_ret
  exact ⟨rfl, ((Below.refl _ _).alloc (Nat.le_refl _) _).trans (HB1.out.mono (by simp))⟩
theorem xmay_le (Q : Nat → Prop) (N : Nat) (u : Value) (w : World) (ht : Tr w Q N leT u) : Calls Tryz.prog 26 #[.agg #[.string ⟨#[60]⟩, .int .i64 0, .int .i64 0, .string ⟨#[]⟩, .string ⟨#[]⟩, u]] w fun e w' => e = .returned (.bool true) ∧ Below w.heap.size w w' := by
  have := emay_any Q N leT u w ht
  rw [may_le] at this
  exact this
set_option maxRecDepth 100000 in
set_option maxHeartbeats 4000000 in
theorem optional_le (Q : Nat → Prop) (N : Nat) (u : Value) (w : World) (ht : Tr w Q N leT u) : Calls Tryz.prog 123 #[.agg #[.string ⟨#[60]⟩, .int .i64 0, .int .i64 0, .string ⟨#[]⟩, .string ⟨#[]⟩, u]] w fun e w' => e = .returned (.bool true) ∧ Below w.heap.size w w' := by
  have HT := Lib.hid ht
  clear ht
  have HB0 : Hid (Below w.heap.size w (w.alloc (.cells #[.string ⟨#[60]⟩, .int .i64 0, .int .i64 0, .string ⟨#[]⟩, .string ⟨#[]⟩, u] 29))) := (Below.refl _ _).alloc (Nat.le_refl _) _
  go_enter Tryz.func123, Tryz.ntmps123
  go_wp2_with (first
    | (go_at_call 138; (with_reducible refine (none_le u _).mono ?_); rintro e w1 ⟨rfl, hb1⟩; have HB1 : Hid (Below w.heap.size w w1) := HB0.out.trans (hb1.mono (by simp)); have EK := hb1.block w.heap.size (by simp); rw [alloc_at rfl _] at EK; have k0 := Lib.cell_of_heap EK 0; have k1 := Lib.cell_of_heap EK 1; have k2 := Lib.cell_of_heap EK 2; have k3 := Lib.cell_of_heap EK 3; have k4 := Lib.cell_of_heap EK 4; have k5 := Lib.cell_of_heap EK 5; simp only [List.getElem?_toArray, List.getElem?_cons_zero, List.getElem?_cons_succ] at k0 k1 k2 k3 k4 k5; clear hb1 EK)
    | (go_at_call 26; (with_reducible refine (xmay_le Q N u w1 (HT.out.below HB1.out)).mono ?_); rintro e w2 ⟨rfl, hb2⟩; have HB2 : Hid (Below w.heap.size w w2) := HB1.out.trans (hb2.mono HB1.out.size); clear hb2))
  go_ret
  exact ⟨rfl, HB2.out⟩
set_option maxRecDepth 100000 in
set_option maxHeartbeats 4000000 in
theorem written_5 (u : Value) (w : World) (hl : LibE w) : Calls Tryz.prog 182 #[.agg #[.string ⟨#[108, 105, 116]⟩, .int .i64 1, .int .i64 5, .string ⟨#[]⟩, .string ⟨#[]⟩, u]] w fun e w' => e = .returned (.string ⟨#[53]⟩) ∧ Below w.heap.size w w' := by
  have HL := Lib.hid hl
  have HX : Hid (∀ W : World, LibE W → Calls Tryz.prog 103 #[.agg #[.int .i64 1, .int .i64 5, .string ⟨#[]⟩]] W fun e w' => e = .returned (.string ⟨#[53]⟩) ∧ Below W.heap.size W w') := Lib.hid fun W hW => by
    have := text_any 1 5 ⟨#[]⟩ W hW.libs (by unfold In64; omega)
    rw [show (⟨(txtO 1 5 ⟨#[]⟩).toArray⟩ : ByteArray) = ⟨#[53]⟩ by kernel_rfl] at this
    exact this
  clear hl
  go_enter Tryz.func182, Tryz.ntmps182
  go_wp2_with (go_at_call 103; (with_reducible refine (HX.out _ (HL.out.keep ((Below.refl w.heap.size w).alloc (Nat.le_refl _) _) (Nat.le_refl _))).mono ?_); rintro e w1 ⟨rfl, hb1⟩; have HB1 := Lib.hid hb1; clear hb1)
  go_ret
  exact ⟨rfl, ((Below.refl _ _).alloc (Nat.le_refl _) _).trans (HB1.out.mono (by simp))⟩
set_option maxRecDepth 100000 in
set_option maxHeartbeats 4000000 in
theorem written_le (Q : Nat → Prop) (N : Nat) (u : Value) (w : World) (ht : Tr w Q (N + 1) leT u) (hl : LibE w) : Calls Tryz.prog 182 #[.agg #[.string ⟨#[60]⟩, .int .i64 0, .int .i64 0, .string ⟨#[]⟩, .string ⟨#[]⟩, u]] w fun e w' => e = .returned (.string ⟨#[40, 107, 32, 60, 32, 53, 41]⟩) ∧ Below w.heap.size w w' := by
  obtain ⟨A, q, rfl, _⟩ := ht.form
  have hl2 : leT.l.length = 2 := rfl
  have hs : Sl w Q (N + 1) leT.l (.slice A leT.l.length q) := ht.2
  obtain ⟨a, u0, M0, rfl, _, x0, _⟩ := hs.at_ (j := 0) (by decide)
  obtain ⟨a', u1, M1, ea, _, x1, _⟩ := hs.at_ (j := 1) (by decide)
  injection ea with ea
  subst ea
  rw [hl2]
  have y0 : ExC w a (colT ⟨#[107]⟩) u0 := by rw [show a.add (0 * 6) = a by simp [Addr.add]] at x0; exact x0
  have y1 : ExC w ⟨a.block, a.off + 6, none⟩ (litT ⟨1, 5, ⟨#[]⟩⟩) u1 := by rw [show a.add (1 * 6) = ⟨a.block, a.off + 6, none⟩ from addE a 6 (by omega)] at x1; exact x1
  have HX := Lib.hid (And.intro y0 (And.intro y1 hl))
  have hal : a.block < w.heap.size := by have := x0.lt; rwa [add_block] at this
  clear ht hs hl2 x0 x1 y0 y1 hl
  go_enter Tryz.func182, Tryz.ntmps182
  go_upto_region 10 with (fail)
  refine detL_begin [.val (.pointer (some ⟨w.heap.size, 5, none⟩)), .val (.slice (some a) 2 q), .val (.pointer (some a)), .val (.agg #[.string ⟨#[99, 111, 108]⟩, .int .i64 0, .int .i64 0, .string ⟨#[]⟩, .string ⟨#[107]⟩, u0]), .val (.string ⟨#[107]⟩), .val (.string ⟨#[40, 107]⟩), .val (.string ⟨#[40, 107, 32]⟩), .val (.pointer (some ⟨w.heap.size, 0, none⟩)), .val (.string ⟨#[60]⟩), .val (.string ⟨#[60]⟩), .val (.string ⟨#[40, 107, 32, 60]⟩), .val (.string ⟨#[40, 107, 32, 60, 32]⟩), .val (.pointer (some ⟨w.heap.size, 5, none⟩)), .val (.slice (some a) 2 q), .val (.pointer (some ⟨a.block, a.off + 6, none⟩)), .val (.agg #[.string ⟨#[108, 105, 116]⟩, .int .i64 1, .int .i64 5, .string ⟨#[]⟩, .string ⟨#[]⟩, u1]), .val (.string ⟨#[53]⟩), .val (.string ⟨#[40, 107, 32, 60, 32, 53]⟩), .val (.string ⟨#[40, 107, 32, 60, 32, 53, 41]⟩), .val (.string ⟨#[40, 107, 32, 60, 32, 53, 41]⟩)] 20 (by kernel_rfl) ?_
  refine detL_val (by kernel_rfl) (yields_of rfl fun w1 hb1 => ?_) ?_
  · have hc1 := bcellD hb1
    clear hb1
    go_simp
    exact Det1_same
  simp only [Act.put, List.setIfInBounds_toArray, List.set_cons_zero, List.set_cons_succ]
  refine detL_val (by kernel_rfl) (yields_of rfl fun w1 hb1 => ?_) ?_
  · have hc1 := bcellD hb1
    clear hb1
    go_simp
    exact Det1_same
  simp only [Act.put, List.setIfInBounds_toArray, List.set_cons_zero, List.set_cons_succ]
  refine detL_val (by kernel_rfl) (yields_of rfl fun w1 hb1 => ?_) ?_
  · have hc1 := bcellD hb1
    clear hb1
    go_simp
    exact Det1_same
  simp only [Act.put, List.setIfInBounds_toArray, List.set_cons_zero, List.set_cons_succ]
  refine detL_val (by kernel_rfl) (yields_of rfl fun w1 hb1 => ?_) ?_
  · have hc1 := bcellD hb1
    have z := HX.out.1; have m0 := z.c0; have m1 := z.c1; have m2 := z.c2; have m3 := z.c3; have m4 := z.c4; have m5 := z.c5; clear z; have x := HX.out.1.keep (W' := w1) (by exact (hb1.block _ (by show a.block < (w.heap.push _).size; simp; omega)).trans (Below.heap_alloc _ _ _ hal)); have k0 := x.c0; have k1 := x.c1; have k2 := x.c2; have k3 := x.c3; have k4 := x.c4; have k5 := x.c5; clear x; simp only [colT, Ex.l, Ex.op, Ex.x, Ex.s] at k0 k1 k2 k3 k4 k5 m0 m1 m2 m3 m4 m5
    clear hb1
    go_simp
    exact Det1_same
  simp only [Act.put, List.setIfInBounds_toArray, List.set_cons_zero, List.set_cons_succ]
  refine detL_val (by kernel_rfl) (yields_of rfl fun w1 hb1 => ?_) ?_
  · have hc1 := bcellD hb1
    clear hb1
    go_simp
    exact Det1_enter (written_k u0 _)
  simp only [Act.put, List.setIfInBounds_toArray, List.set_cons_zero, List.set_cons_succ]
  refine detL_val (by kernel_rfl) (yields_of rfl fun w1 hb1 => ?_) ?_
  · have hc1 := bcellD hb1
    clear hb1
    go_simp
    exact Det1_same
  simp only [Act.put, List.setIfInBounds_toArray, List.set_cons_zero, List.set_cons_succ]
  refine detL_val (by kernel_rfl) (yields_of rfl fun w1 hb1 => ?_) ?_
  · have hc1 := bcellD hb1
    clear hb1
    go_simp
    exact Det1_same
  simp only [Act.put, List.setIfInBounds_toArray, List.set_cons_zero, List.set_cons_succ]
  refine detL_val (by kernel_rfl) (yields_of rfl fun w1 hb1 => ?_) ?_
  · have hc1 := bcellD hb1
    clear hb1
    go_simp
    exact Det1_same
  simp only [Act.put, List.setIfInBounds_toArray, List.set_cons_zero, List.set_cons_succ]
  refine detL_val (by kernel_rfl) (yields_of rfl fun w1 hb1 => ?_) ?_
  · have hc1 := bcellD hb1
    clear hb1
    go_simp
    exact Det1_same
  simp only [Act.put, List.setIfInBounds_toArray, List.set_cons_zero, List.set_cons_succ]
  refine detL_val (by kernel_rfl) (yields_of rfl fun w1 hb1 => ?_) ?_
  · have hc1 := bcellD hb1
    clear hb1
    go_simp
    exact Det1_enter (upper_lt _)
  simp only [Act.put, List.setIfInBounds_toArray, List.set_cons_zero, List.set_cons_succ]
  refine detL_val (by kernel_rfl) (yields_of rfl fun w1 hb1 => ?_) ?_
  · have hc1 := bcellD hb1
    clear hb1
    go_simp
    exact Det1_same
  simp only [Act.put, List.setIfInBounds_toArray, List.set_cons_zero, List.set_cons_succ]
  refine detL_val (by kernel_rfl) (yields_of rfl fun w1 hb1 => ?_) ?_
  · have hc1 := bcellD hb1
    clear hb1
    go_simp
    exact Det1_same
  simp only [Act.put, List.setIfInBounds_toArray, List.set_cons_zero, List.set_cons_succ]
  refine detL_val (by kernel_rfl) (yields_of rfl fun w1 hb1 => ?_) ?_
  · have hc1 := bcellD hb1
    clear hb1
    go_simp
    exact Det1_same
  simp only [Act.put, List.setIfInBounds_toArray, List.set_cons_zero, List.set_cons_succ]
  refine detL_val (by kernel_rfl) (yields_of rfl fun w1 hb1 => ?_) ?_
  · have hc1 := bcellD hb1
    clear hb1
    go_simp
    exact Det1_same
  simp only [Act.put, List.setIfInBounds_toArray, List.set_cons_zero, List.set_cons_succ]
  refine detL_val (by kernel_rfl) (yields_of rfl fun w1 hb1 => ?_) ?_
  · have hc1 := bcellD hb1
    clear hb1
    go_simp
    exact Det1_same
  simp only [Act.put, List.setIfInBounds_toArray, List.set_cons_zero, List.set_cons_succ]
  refine detL_val (by kernel_rfl) (yields_of rfl fun w1 hb1 => ?_) ?_
  · have hc1 := bcellD hb1
    have z := HX.out.2.1; have m0 := z.c0; have m1 := z.c1; have m2 := z.c2; have m3 := z.c3; have m4 := z.c4; have m5 := z.c5; clear z; have x := HX.out.2.1.keep (W' := w1) (by exact (hb1.block _ (by show a.block < (w.heap.push _).size; simp; omega)).trans (Below.heap_alloc _ _ _ hal)); have k0 := x.c0; have k1 := x.c1; have k2 := x.c2; have k3 := x.c3; have k4 := x.c4; have k5 := x.c5; clear x; simp only [litT, Ex.l, Ex.op, Ex.x, Ex.s] at k0 k1 k2 k3 k4 k5 m0 m1 m2 m3 m4 m5
    clear hb1
    go_simp
    exact Det1_same
  simp only [Act.put, List.setIfInBounds_toArray, List.set_cons_zero, List.set_cons_succ]
  refine detL_val (by kernel_rfl) (yields_of rfl fun w1 hb1 => ?_) ?_
  · have hc1 := bcellD hb1
    have HL1 := Lib.hid ((HX.out.2.2.keep ((Below.refl w.heap.size w).alloc (Nat.le_refl _) _) (Nat.le_refl _)).drew.keep hb1 (Nat.le_refl _))
    clear hb1
    go_simp
    exact Det1_enter (written_5 u1 _ HL1.out)
  simp only [Act.put, List.setIfInBounds_toArray, List.set_cons_zero, List.set_cons_succ]
  refine detL_val (by kernel_rfl) (yields_of rfl fun w1 hb1 => ?_) ?_
  · have hc1 := bcellD hb1
    clear hb1
    go_simp
    exact Det1_same
  simp only [Act.put, List.setIfInBounds_toArray, List.set_cons_zero, List.set_cons_succ]
  refine detL_val (by kernel_rfl) (yields_of rfl fun w1 hb1 => ?_) ?_
  · have hc1 := bcellD hb1
    clear hb1
    go_simp
    exact Det1_same
  simp only [Act.put, List.setIfInBounds_toArray, List.set_cons_zero, List.set_cons_succ]
  refine detL_val (by kernel_rfl) (yields_of rfl fun w1 hb1 => ?_) ?_
  · have hc1 := bcellD hb1
    clear hb1
    go_simp
    exact Det1_same
  simp only [Act.put, List.setIfInBounds_toArray, List.set_cons_zero, List.set_cons_succ]
  refine detL_done (by kernel_rfl) fun w1 hw1 => ?_
  have HB1 : Hid (Below w.heap.size w w1) := ((Below.refl _ _).alloc (Nat.le_refl _) _).drew.trans (hw1.below.mono (by simp))
  clear hw1
  go_wp2
  go_ret
  exact ⟨rfl, HB1.out⟩


set_option maxRecDepth 100000 in
set_option maxHeartbeats 4000000 in
theorem xtext_le (Q : Nat → Prop) (u : Value) (w : World) (ht : Tr w Q 1 leT u) (hl : LibE w) : Calls Tryz.prog 160 #[.agg #[.string ⟨#[60]⟩, .int .i64 0, .int .i64 0, .string ⟨#[]⟩, .string ⟨#[]⟩, u]] w fun e w' => e = .returned (.tuple #[.string ⟨#[40, 107, 32, 60, 32, 53, 41]⟩, .int .i64 0]) ∧ Below w.heap.size w w' := by
  have HT := Lib.hid (And.intro ht hl)
  clear ht hl
  have HB0 : Hid (Below w.heap.size w (w.alloc (.cells #[.string ⟨#[60]⟩, .int .i64 0, .int .i64 0, .string ⟨#[]⟩, .string ⟨#[]⟩, u] 29))) := (Below.refl _ _).alloc (Nat.le_refl _) _
  go_enter Tryz.func160, Tryz.ntmps160
  go_wp2_with (first
    | (go_at_call 26; (with_reducible refine (xmay_le Q 1 u _ (HT.out.1.below HB0.out)).mono ?_); rintro e w1 ⟨rfl, hb1⟩; have HB1 : Hid (Below w.heap.size w w1) := HB0.out.trans (hb1.mono (by simp)); have EK := hb1.block w.heap.size (by simp); rw [alloc_at rfl _] at EK; have k0 := Lib.cell_of_heap EK 0; have k1 := Lib.cell_of_heap EK 1; have k2 := Lib.cell_of_heap EK 2; have k3 := Lib.cell_of_heap EK 3; have k4 := Lib.cell_of_heap EK 4; have k5 := Lib.cell_of_heap EK 5; simp only [List.getElem?_toArray, List.getElem?_cons_zero, List.getElem?_cons_succ] at k0 k1 k2 k3 k4 k5; clear hb1 EK)
    | (go_at_call 182; (with_reducible refine (written_le Q 0 u w1 (HT.out.1.below HB1.out) (HT.out.2.keep HB1.out (Nat.le_refl _))).mono ?_); rintro e w2 ⟨rfl, hb2⟩; have HB2 : Hid (Below w.heap.size w w2) := HB1.out.trans (hb2.mono HB1.out.size); clear hb2))
  go_ret2
  exact ⟨rfl, HB2.out⟩
set_option maxRecDepth 100000 in
set_option maxHeartbeats 4000000 in
theorem exprText_le (Q : Nat → Prop) (u : Value) (w : World) (ht : Tr w Q 1 leT u) (hl : LibE w) : Calls Tryz.prog 137 #[.agg #[.string ⟨#[60]⟩, .int .i64 0, .int .i64 0, .string ⟨#[]⟩, .string ⟨#[]⟩, u]] w fun e w' => e = .returned (.string ⟨#[40, 107, 32, 60, 32, 53, 41]⟩) ∧ Below w.heap.size w w' := by
  have HT := Lib.hid (And.intro ht hl)
  clear ht hl
  have HB0 : Hid (Below w.heap.size w (w.alloc (.cells #[.string ⟨#[60]⟩, .int .i64 0, .int .i64 0, .string ⟨#[]⟩, .string ⟨#[]⟩, u] 29))) := (Below.refl _ _).alloc (Nat.le_refl _) _
  go_enter Tryz.func137, Tryz.ntmps137
  go_wp2_with (go_at_call 160; (with_reducible refine (xtext_le Q u _ (HT.out.1.below HB0.out) (HT.out.2.keep HB0.out (Nat.le_refl _))).mono ?_); rintro e w1 ⟨rfl, hb1⟩; have HB1 : Hid (Below w.heap.size w w1) := HB0.out.trans (hb1.mono (by simp)); clear hb1)
  go_ret
  exact ⟨rfl, HB1.out⟩
end Go.Proofs.YtchebhdndkaheaaGreatDoor

/- The chapter's example of layer 6: the text of its column. -/
namespace Go.Proofs.YtchebhdndkaheaaGreatDoor
open Go.RowKit Go.Lib

/-- The words of columns' types: the word of a number's. -/
def TyE (w : World) : Prop := w.cell? ⟨1, 1, none⟩ = some (.string ⟨#[73, 78, 84]⟩)
theorem TyE.lt {w : World} (h : TyE w) : 1 < w.heap.size := World.block_lt_of_cell? w _ h
theorem TyE.keep {w w' : World} {B : Nat} (h : TyE w) (hb : Below B w w') (hB : w.heap.size ≤ B) : TyE w' := (hb.cell (p := ⟨1, 1, none⟩) (Nat.lt_of_lt_of_le h.lt hB)).trans h
set_option maxRecDepth 100000 in
set_option maxHeartbeats 4000000 in
theorem define_ok (w : World) (ht : TyE w) : Calls Tryz.prog 134 #[.agg #[.string ⟨#[107]⟩, .int .i64 1, .bool false]] w fun e w' => e = .returned (.string ⟨#[107, 32, 73, 78, 84]⟩) ∧ Below w.heap.size w w' := by
  have HG : Hid (w.cell? ⟨1, 1, none⟩ = some (.string ⟨#[73, 78, 84]⟩)) := Lib.hid ht
  have hgl := ht.lt
  clear ht
  have HB0 : Hid (Below w.heap.size w (w.alloc (.cells #[.string ⟨#[107]⟩, .int .i64 1, .bool false] 43))) := (Below.refl _ _).alloc (Nat.le_refl _) _
  go_enter Tryz.func134, Tryz.ntmps134
  go_upto_region 1 with (fail)
  refine detL_begin [.val (.pointer (some ⟨w.heap.size, 0, none⟩)), .val (.string ⟨#[107]⟩), .val (.string ⟨#[107, 32]⟩), .val (.pointer (some ⟨w.heap.size, 1, none⟩)), .val (.int .i64 1), .val (.pointer (some ⟨1, 1, none⟩)), .val (.string ⟨#[73, 78, 84]⟩), .val (.string ⟨#[107, 32, 73, 78, 84]⟩), .val (.string ⟨#[107, 32, 73, 78, 84]⟩)] 9 (by kernel_rfl) ?_
  refine detL_val (by kernel_rfl) (yields_of rfl fun w1 hb1 => ?_) ?_
  · have hc1 := bcellD hb1
    clear hb1
    go_simp
    exact Det1_same
  simp only [Act.put, List.setIfInBounds_toArray, List.set_cons_zero, List.set_cons_succ]
  refine detL_val (by kernel_rfl) (yields_of rfl fun w1 hb1 => ?_) ?_
  · have hc1 := bcellD hb1
    clear hb1
    go_simp
    exact Det1_same
  simp only [Act.put, List.setIfInBounds_toArray, List.set_cons_zero, List.set_cons_succ]
  refine detL_val (by kernel_rfl) (yields_of rfl fun w1 hb1 => ?_) ?_
  · have hc1 := bcellD hb1
    clear hb1
    go_simp
    exact Det1_same
  simp only [Act.put, List.setIfInBounds_toArray, List.set_cons_zero, List.set_cons_succ]
  refine detL_val (by kernel_rfl) (yields_of rfl fun w1 hb1 => ?_) ?_
  · have hc1 := bcellD hb1
    clear hb1
    go_simp
    exact Det1_same
  simp only [Act.put, List.setIfInBounds_toArray, List.set_cons_zero, List.set_cons_succ]
  refine detL_val (by kernel_rfl) (yields_of rfl fun w1 hb1 => ?_) ?_
  · have hc1 := bcellD hb1
    clear hb1
    go_simp
    exact Det1_same
  simp only [Act.put, List.setIfInBounds_toArray, List.set_cons_zero, List.set_cons_succ]
  refine detL_val (by kernel_rfl) (yields_of rfl fun w1 hb1 => ?_) ?_
  · have hc1 := bcellD hb1
    clear hb1
    go_simp
    exact Det1_same
  simp only [Act.put, List.setIfInBounds_toArray, List.set_cons_zero, List.set_cons_succ]
  refine detL_val (by kernel_rfl) (yields_of rfl fun w1 hb1 => ?_) ?_
  · have hc1 := bcellD hb1
    have HB1 : Hid (Below w.heap.size w w1) := HB0.out.drew.trans (hb1.mono (by simp)); have m0 := (HB1.out.cell (p := ⟨1, 1, none⟩) hgl).trans HG.out; have m1 := HG.out
    clear hb1
    go_simp
    exact Det1_same
  simp only [Act.put, List.setIfInBounds_toArray, List.set_cons_zero, List.set_cons_succ]
  refine detL_val (by kernel_rfl) (yields_of rfl fun w1 hb1 => ?_) ?_
  · have hc1 := bcellD hb1
    clear hb1
    go_simp
    exact Det1_same
  simp only [Act.put, List.setIfInBounds_toArray, List.set_cons_zero, List.set_cons_succ]
  refine detL_val (by kernel_rfl) (yields_of rfl fun w1 hb1 => ?_) ?_
  · have hc1 := bcellD hb1
    clear hb1
    go_simp
    exact Det1_same
  simp only [Act.put, List.setIfInBounds_toArray, List.set_cons_zero, List.set_cons_succ]
  refine detL_done (by kernel_rfl) fun w1 hw1 => ?_
  have HB1 : Hid (Below w.heap.size w w1) := HB0.out.drew.trans (hw1.below.mono (by simp))
  have EK : w1.heap[w.heap.size]? = some (.cells #[.string ⟨#[107]⟩, .int .i64 1, .bool false] 43 (0, 0)) := (hw1.below.block w.heap.size (by simp)).trans (alloc_at rfl _)
  have k2 := Lib.cell_of_heap EK 2
  simp only [List.getElem?_toArray, List.getElem?_cons_zero, List.getElem?_cons_succ] at k2
  clear hw1
  go_wp2_with (fail)
  go_ret
  exact ⟨rfl, HB1.out⟩
end Go.Proofs.YtchebhdndkaheaaGreatDoor

/- What a row's condition on the listed variables says of them. -/
namespace Go.Proofs.YtchebhdndkaheaaGreatDoor
open Go.RowKit Go.Lib

theorem pow10_data : (Rows.laid_internal_strconv_uint64pow10 : DataW Unit) = tabData .u64 pow10Tab := by kernel_rfl
theorem tab_of_row {laid : List (String × DataW Unit)} {W : World} (h : laidMetH Tryz.prog laid W) (hp : (laid.all fun x => x.2.handleName?.isNone) = true) {x y : String × DataW Unit} {r : List (String × DataW Unit)}
    (hl : laid = x :: y :: ("internal/strconv.uint64pow10", Rows.laid_internal_strconv_uint64pow10) :: r) : Lib.TabIs Tryz.prog W "internal/strconv.uint64pow10" .u64 Lib.pow10Tab := by
  rw [MakeChecks.laidMetH_plain _ _ _ hp, hl, pow10_data] at h
  exact tabIs_of_head (g := 2) (by kernel_rfl) (by kernel_rfl) Tryz.underlying209 Tryz.underlying195 (by kernel_rfl) (by kernel_rfl) h.tail.tail
theorem libs_of {laid : List (String × DataW Unit)} {W : World} {m : Int} (h : laidMetH Tryz.prog laid W) (hm : W.cell? ⟨0, 0, none⟩ = some (.int .i64 m)) (hp : (laid.all fun x => x.2.handleName?.isNone) = true) {x y : String × DataW Unit} {r : List (String × DataW Unit)}
    (hl : laid = x :: y :: ("internal/strconv.uint64pow10", Rows.laid_internal_strconv_uint64pow10) :: r) : Libs W := ⟨tab_of_row h hp hl, m, hm⟩
end Go.Proofs.YtchebhdndkaheaaGreatDoor

/- What a row's condition on the listed variables says of the words of columns' types. -/
namespace Go.Proofs.YtchebhdndkaheaaGreatDoor
open Go.RowKit Go.Lib

theorem tyE_of_head {W : World} {rest : List (String × DataW Unit)} (h : laidMet Tryz.prog (("caddis/stmt.types", Rows.laid_caddis_stmt_types) :: rest) W) : TyE W := by
  obtain ⟨ps, ⟨g', t', cs, fuel, p, q, hg', ht', hvar, hd, _, _⟩, _⟩ := h
  have hg : Tryz.prog.globalNamed "caddis/stmt.types" = some 1 := by kernel_rfl
  have hty : (Tryz.prog.globals[1]?).map (·.type) = some 177 := by kernel_rfl
  obtain rfl := Option.some.inj (hg.symm.trans hg')
  obtain rfl := Option.some.inj (hty.symm.trans ht')
  have hct : Tryz.prog.cellsOf 177 = 4 := by kernel_rfl
  have hce : Tryz.prog.cellsOf 9 = 1 := by kernel_rfl
  cases fuel with
  | zero => simp [DataW.trod] at hd
  | succ fuel =>
    simp only [DataW.trod, Tryz.underlying177, hce, hct, Nat.mul_one] at hd
    split at hd
    · rename_i hl
      obtain ⟨xs, hm, hx⟩ := Option.map_eq_some_iff.1 hd
      obtain ⟨b, hb, hf⟩ := mapM_at hm 1 1 (by simp)
      have hv1 : (xs.map (·.1))[1]? = some (.lit (.string [73, 78, 84])) := by
        rw [congrArg Prod.fst hx |> (fun h => (DataW.agg.inj h))]
        rfl
      rw [List.getElem?_map, hb] at hv1
      have hb1 : b.1 = .lit (.string [73, 78, 84]) := by simpa using hv1
      obtain ⟨a1, ha1⟩ : ∃ a1, cs.toList[1]? = some a1 := ⟨_, List.getElem?_eq_getElem (by omega)⟩
      have htk : List.take 1 (List.drop 1 cs.toList) = [a1] := by
        match hcs : cs.toList, hl, ha1 with
        | [x0, x1, x2, x3], _, h => simp at h; simp [h]
      rw [htk] at hf
      have hs : a1 = .string ⟨#[73, 78, 84]⟩ := by
        cases fuel with
        | zero => simp [DataW.trod] at hf
        | succ fuel =>
          cases a1 with
          | string t =>
            have e : b.1 = .lit (.string t.data.toList) := by
              have hsz : Tryz.prog.cellsOf 9 = 1 := hce
              simp [DataW.trod, Tryz.underlying9, hsz] at hf
              rw [← hf.2]
            rw [hb1] at e
            have e : ([73, 78, 84] : List UInt8) = t.data.toList := Lit.string.inj (DataW.lit.inj e)
            rw [show t = ⟨#[73, 78, 84]⟩ from bytes_of (by rw [toList_data]; exact e.symm)]
          | _ => simp [DataW.trod, Tryz.underlying9, hce] at hf
      have := World.var?_cell hg hvar 1
      unfold TyE
      rw [this, ← hs]
      simpa using ha1
    · cases hd
end Go.Proofs.YtchebhdndkaheaaGreatDoor

/- The chapter's example of layer 6: its columns within a statement. -/
namespace Go.Proofs.YtchebhdndkaheaaGreatDoor
open Go.RowKit Go.Lib

def kC : Cl := ⟨⟨#[107]⟩, 1, false⟩
theorem nmB_k : nmB ⟨#[107]⟩ = true := by
  unfold nmB
  rw [res_no (by decide), show nameB ⟨#[107]⟩ = true by decide]
  rfl
set_option maxRecDepth 100000 in
set_option maxHeartbeats 4000000 in
theorem column_k (w : World) : Calls Tryz.prog 119 #[.agg #[.string ⟨#[107]⟩, .int .i64 1, .bool false]] w fun e w' => e = .returned (.bool true) ∧ Below w.heap.size w w' := by
  have HB0 : Hid (Below w.heap.size w (w.alloc (.cells #[.string ⟨#[107]⟩, .int .i64 1, .bool false] 43))) := (Below.refl _ _).alloc (Nat.le_refl _) _
  go_enter Tryz.func119, Tryz.ntmps119
  go_wp2_with (go_at_call 96; (with_reducible refine (named_any ⟨#[107]⟩ _ (by decide)).mono ?_); rintro e w1 ⟨rfl, hb1⟩; rw [nmB_k]; have HB1 : Hid (Below w.heap.size w w1) := HB0.out.trans (hb1.mono (by simp)); have EK := hb1.block w.heap.size (by simp); rw [alloc_at rfl _] at EK; have k1 := Lib.cell_of_heap EK 1; simp only [List.getElem?_toArray, List.getElem?_cons_zero, List.getElem?_cons_succ] at k1; clear hb1 EK)
  go_ret
  exact ⟨rfl, HB1.out⟩
set_option maxRecDepth 100000 in
set_option maxHeartbeats 4000000 in
theorem each1_col (bx : Nat) (w : World) (hb : w.heap[bx]? = some (.cells #[.func (.func 119) #[] #[]] 72 (0, 0))) :
    Calls Tryz.prog 150 #[.agg #[.string ⟨#[107]⟩, .int .i64 1, .bool false], .pointer (some ⟨bx, 0, none⟩)] w fun e w' => e = .returned (.bool false) ∧ Below w.heap.size w w' := by
  have c0 := Lib.cell_of_heap hb 0
  have cf := lt_of_block hb
  clear hb
  simp only [List.getElem?_toArray, List.getElem?_cons_zero] at c0
  go_enter Tryz.func150, Tryz.ntmps150
  go_wp2_with (go_at_call 119; refine (column_k _).mono ?_; rintro e w1 ⟨rfl, hb1⟩; have HB1 := Lib.hid hb1; clear hb1)
  go_ret
  exact ⟨rfl, ((Below.refl _ _).alloc (Nat.le_refl _) _).trans (HB1.out.mono (by simp))⟩
set_option maxRecDepth 100000 in
set_option maxHeartbeats 4000000 in
theorem index_ecols (A : Option Addr) (n cap : Nat) (l : List Cl) (f : Cl → Bool) (b : Nat) (w : World) (hc : ColS w A n l) (hp : ∀ y ∈ l, ∀ W, Below w.heap.size w W → Calls Tryz.prog 150 #[(.agg #[.string y.n, .int .i64 y.t, .bool y.b]), .pointer (some ⟨b, 0, none⟩)] W fun e w' => e = .returned (.bool (f y)) ∧ Below W.heap.size W w') :
    Calls Tryz.prog 56 #[.slice A n cap, .func (.func 150) #[] #[.pointer (some ⟨b, 0, none⟩)]] w fun e w' => e = .returned (.int .i64 (idxP f l 0)) ∧ Below w.heap.size w w' := by
  have HC := Lib.hid hc
  have HP := Lib.hid hp
  have HL := Lib.hid hc.1
  have hn : n ≤ maxLen := hc.2.1
  unfold maxLen at hn
  clear hc hp
  go_enter Tryz.func56, Tryz.ntmps56
  go_wp2_with (fail)
  go_loopw [8] (fun i wr => ∃ j : Nat, i = .int .i64 j ∧ j ≤ n ∧ Below w.heap.size w wr ∧ Hid (idxP f l 0 = idxP f (l.drop j) j)) (fun i _ => n - (intOf i).toNat)
  case atStart => exact ⟨0, rfl, by omega, Below.refl _ _, rfl⟩
  case round =>
    obtain ⟨j, rfl, hj, hbw, HI⟩ := hrel
    have hbs := hbw.size
    by_cases hlt : j < n
    · have hjl : j < l.length := by rw [HL.out]; exact hlt
      obtain ⟨a, rfl, hE⟩ := HC.out.2.2 j hjl
      have hE' := hE.keep (hbw.block _ hE.lt)
      have e0 := hE'.c0
      have e1 := hE'.c1
      have e2 := hE'.c2
      clear hE hE'
      have HD : Hid (l.drop j = l[j] :: l.drop (j + 1)) := List.drop_eq_getElem_cons hjl
      have HY := Lib.hid (HP.out l[j] (List.getElem_mem hjl))
      have HB := Lib.hid hbw
      clear hbw
      generalize l[j] = y at e0 e1 e2 HD HY
      have HI2 : Hid (idxP f l 0 = if f y = true then (j : Int) else idxP f (l.drop (j + 1)) ((j : Int) + 1)) := Lib.hid (by rw [HI.out, HD.out]; rfl)
      clear HI
      generalize f y = z at HY HI2
      cases z with
      | true =>
        go_wp2_with (go_at_call 150; refine (HY.out _ HB.out).mono ?_; rintro e w1 ⟨rfl, hb1⟩; have HB1 := Lib.hid ((HB.out).trans (hb1.mono hbs)); clear hb1)
        go_ret
        exact ⟨by rw [HI2.out]; simp, HB1.out⟩
      | false =>
        go_wp2_with (go_at_call 150; refine (HY.out _ HB.out).mono ?_; rintro e w1 ⟨rfl, hb1⟩; have HB1 := Lib.hid ((HB.out).trans (hb1.mono hbs)); clear hb1)
        go_roundw
        case rel => exact ⟨j + 1, by go_num, by omega, HB1.out, Lib.hid (by rw [HI2.out]; simp)⟩
        case measure => simp [intOf]; omega
    · have HB := Lib.hid hbw
      clear hbw
      go_wp2
      go_ret
      exact ⟨by rw [HI.out, List.drop_of_length_le (by have := HL.out; omega)]; rfl, HB.out⟩
set_option maxRecDepth 100000 in
set_option maxHeartbeats 4000000 in
theorem contains_ecols (A : Option Addr) (n cap : Nat) (l : List Cl) (f : Cl → Bool) (b : Nat) (w : World) (hc : ColS w A n l) (hp : ∀ y ∈ l, ∀ W, Below w.heap.size w W → Calls Tryz.prog 150 #[(.agg #[.string y.n, .int .i64 y.t, .bool y.b]), .pointer (some ⟨b, 0, none⟩)] W fun e w' => e = .returned (.bool (f y)) ∧ Below W.heap.size W w') :
    Calls Tryz.prog 29 #[.slice A n cap, .func (.func 150) #[] #[.pointer (some ⟨b, 0, none⟩)]] w fun e w' => e = .returned (.bool (l.any f)) ∧ Below w.heap.size w w' := by
  have H := Lib.hid (index_ecols A n cap l f b w hc hp)
  have HE := Lib.hid (idxP_any f l 0 (by omega))
  clear hc hp
  generalize l.any f = z at HE ⊢
  generalize idxP f l 0 = y at H HE
  go_enter Tryz.func29, Tryz.ntmps29
  go_wp2_with (go_at_call 56; refine H.out.mono ?_; rintro e w1 ⟨rfl, hb1⟩)
  go_ret
  exact ⟨ret_bool HE.out, hb1⟩

set_option maxRecDepth 100000 in
set_option maxHeartbeats 4000000 in
theorem ceach_ok (A : Option Addr) (cap : Nat) (w : World) (hv : ColS w A 1 [kC]) :
    Calls Tryz.prog 118 #[.slice A 1 cap, .int .i64 1, .int .i64 8, .func (.func 119) #[] #[]] w fun e w' => e = .returned (.bool true) ∧ Below w.heap.size w w' := by
  have HV := Lib.hid hv
  have HK := Lib.hid (contains_ecols A 1 cap [kC] (fun _ => false) w.heap.size (w.alloc (.cells #[.func (.func 119) #[] #[]] 72)) (hv.below ((Below.refl _ _).alloc (Nat.le_refl _) _)) (fun y hy W hW => by
    obtain rfl := List.mem_singleton.1 hy
    exact each1_col w.heap.size W ((hW.block _ (by simp)).trans (alloc_at rfl _))))
  rw [show [kC].any (fun _ => false) = false from rfl] at HK
  clear hv
  go_enter Tryz.func118, Tryz.ntmps118
  go_wp2_with (go_at_call 29; refine HK.out.mono ?_; rintro e w1 ⟨rfl, hb1⟩; have HB1 := Lib.hid hb1; clear hb1)
  go_ret
  exact ⟨rfl, ((Below.refl _ _).alloc (Nat.le_refl _) _).trans (HB1.out.mono (by simp))⟩
set_option maxRecDepth 100000 in
set_option maxHeartbeats 4000000 in
theorem clisted_ok (A : Option Addr) (n cap : Nat) (l : List Cl) (tx : Cl → ByteArray) (out : ByteArray) (w : World) (h0 : 0 < n) (hn : n ≤ 100) (hv : ColS w A n l) (hd : ∀ x ∈ l, ∀ W, Below w.heap.size w W → Calls Tryz.prog 134 #[.agg #[.string x.n, .int .i64 x.t, .bool x.b]] W fun e w' => e = .returned (.string (tx x)) ∧ Below W.heap.size W w')
    (ho : (⟨(Lib.join ((l.map tx).map (·.data.toList)) (⟨#[32, 44, 32]⟩ : ByteArray).data.toList).toArray⟩ : ByteArray) = out) (hlen : (Lib.join ((l.map tx).map (·.data.toList)) (⟨#[32, 44, 32]⟩ : ByteArray).data.toList).length ≤ 140737488355328) :
    Calls Tryz.prog 133 #[.slice A n cap, .func (.func 134) #[] #[]] w fun e w' => e = .returned (.string out) ∧ Below w.heap.size w w' := by
  have HV := Lib.hid (And.intro hv hd)
  have HO := Lib.hid (And.intro ho hlen)
  have hll : l.length = n := hv.1
  clear hv hd ho hlen
  obtain ⟨i0, hi0, hz0, hz1, hz2⟩ := info_parts infoStr1
  go_enter Tryz.func133, Tryz.ntmps133
  go_wp2
  go_loopw [5, 10] (fun t5 i wr => ∃ (k : Nat) (tv : Value), k ≤ n ∧ i = .int .i64 k ∧ tv = t5 ∧ Below w.heap.size w wr ∧ Hid (wr.ownsRow w.heap.size 9 1 tv k (((l.take k).map fun x => Value.string (tx x))))) (fun _ i _ => n - (intOf i).toNat)
  case atStart => exact ⟨0, _, by omega, rfl, rfl, Below.refl _ _, Lib.hid ⟨rfl, .inl ⟨rfl, rfl⟩⟩⟩
  case round =>
    obtain ⟨k, tv, hk, rfl, rfl, hb, HR⟩ := hrel
    have hbs := hb.size
    by_cases hlt : k < n
    · have hkl : k < l.length := by omega
      obtain ⟨a, rfl, hA⟩ := HV.out.1.2.2 k hkl
      have hA' := hA.keep (hb.block _ hA.lt)
      have hx : l[k]? = some l[k] := List.getElem?_eq_getElem hkl
      have HM := Lib.hid (HV.out.2 l[k] (List.getElem_mem hkl))
      generalize l[k] = x at hA hA' hx HM
      have ck := hA'.c0
      have ci := hA'.c1
      have cs := hA'.c2
      have HX := Lib.hid (And.intro hx hb)
      clear hx hA hA' hb
      go_wp2_with (first
        | (go_at_call 134; refine (HM.out _ (HX.out.2.alloc hbs _)).mono ?_; rintro e w1 ⟨rfl, hb1⟩; have HB1 : Hid (Below w.heap.size w w1) := (HX.out.2.alloc hbs _).trans (hb1.mono (by simp; omega)); have HR1 : Hid (w1.ownsRow w.heap.size 9 1 tv k (((l.take k).map fun x => Value.string (tx x)))) := World.ownsRow.kept (row := none) (World.ownsRow.alloc HR.out _) ⟨hb1.os, hb1.tape, hb1.output, hb1.size, fun q hq _ => hb1.block q hq⟩ (by cases h : Value.ownBlock tv with | none => exact .inl rfl | some _ => exact .inr (by simp)); have hs1 : w.heap.size ≤ w1.heap.size := HB1.out.size; clear hb1)
        | (at_builtin; refine wpList_append_own _ rfl _ _ 57 rfl w.heap.size 9 i0 _ 1 16 Tryz.underlying57 hi0 hz0 hz1 hz2 rfl (by decide) tv k (((l.take k).map fun x => Value.string (tx x))) rfl (World.ownsRow.alloc HR1.out _) ⟨w1.heap.size, 0, none⟩ 1 1 [.string (tx x)] rfl rfl ?c1 ?c2 ?c3 ?c4 ?c5 ?_))
      case c1 => exact new_str
      case c2 => intro u hu; simp at hu; subst hu; rfl
      case c3 => unfold maxLen; omega
      case c4 => omega
      case c5 => simp; omega
      intro v' w2 hown hgrow _
      have HN2 : Hid (w2.ownsRow w.heap.size 9 1 v' (k + 1) (((l.take (k + 1)).map fun x => Value.string (tx x)))) := Lib.hid (by rw [show ((l.take (k + 1)).map fun x => Value.string (tx x)) = ((l.take k).map fun x => Value.string (tx x)) ++ [.string (tx x)] by rw [take_snoc' HX.out.1, List.map_append]; rfl]; first | exact hown | (rw [List.map_take]; exact hown))
      have HB2 : Hid (Below w.heap.size w w2) := Lib.hid (below_own (HB1.out.alloc hs1 _) (own_ge HR1.out) hgrow)
      clear hown hgrow
      go_wp2
      go_roundw
      case rel => exact ⟨k + 1, _, by omega, by go_num, rfl, HB2.out, HN2⟩
      case measure => simp [intOf]; omega
    · obtain rfl : n = k := by omega
      have HB := Lib.hid hb
      clear hb
      have hf : ((l.take n).map fun x => Value.string (tx x)) = (l.map fun x => Value.string (tx x)) := by rw [List.take_of_length_le (by omega)]
      have hr := HR.out
      rw [hf] at hr
      obtain ⟨hlen, hcase⟩ := hr
      rcases hcase with ⟨_, h00⟩ | ⟨r, cap', cur, rfl, hr0, hg, hc, hm, hsz, ht⟩
      · omega
      have HJ : Hid (Calls Tryz.prog 107 #[.slice (some ⟨r, 0, none⟩) n cap', .string ⟨#[32, 44, 32]⟩] wr fun e w' => e = .returned (.string out) ∧ Below wr.heap.size wr w') := Lib.hid (by
        have := Tryz.strings_Join r 0 cap' (l.map tx) ⟨#[32, 44, 32]⟩ wr (fun j s hs => by
          have hj : j < n := by have := (List.getElem?_eq_some_iff.1 hs).1; simpa [hll] using this
          rw [Lib.cell_of_heap hg, Nat.zero_add]
          have e1 : (cur.toList.take (n * 1))[j]? = some (.string s) := by
            rw [ht]
            rw [List.getElem?_map]
            rw [List.getElem?_map] at hs
            cases hq : l[j]? with
            | none => rw [hq] at hs; cases hs
            | some y => rw [hq] at hs; simp at hs; simp [hs]
          rw [List.getElem?_take, if_pos (by omega)] at e1
          simpa using e1) (lt_of_block hg) (by simp [hll]; omega) (by simp [hll]; exact hc) HO.out.2
        rw [HO.out.1, List.length_map, hll] at this
        exact this)
      clear hlen hr0 hg hc hm hsz ht hf
      go_wp2_with (go_at_call 107; refine HJ.out.mono ?_; rintro e w1 ⟨rfl, hb1⟩; have HB1 := Lib.hid (HB.out.trans (hb1.mono hbs)); clear hb1)
      go_ret
      exact ⟨rfl, HB1.out⟩


end Go.Proofs.YtchebhdndkaheaaGreatDoor

/- The chapter's example of layer 6: its statement may be. -/
namespace Go.Proofs.YtchebhdndkaheaaGreatDoor
open Go.RowKit Go.Lib

set_option maxRecDepth 100000 in
set_option maxHeartbeats 4000000 in
theorem br_k (w : World) : Calls Tryz.prog 100 #[.string ⟨#[107]⟩] w fun e w' => e = .returned (.string ⟨#[32, 40, 32, 107, 32, 41]⟩) ∧ Below w.heap.size w w' := by
  go_enter Tryz.func100, Tryz.ntmps100
  go_wp2
  go_ret
  exact ⟨rfl, Below.refl _ _⟩
set_option maxRecDepth 100000 in
set_option maxHeartbeats 4000000 in
theorem br_e (w : World) : Calls Tryz.prog 100 #[.string ⟨#[40, 107, 32, 60, 32, 53, 41]⟩] w fun e w' => e = .returned (.string ⟨#[32, 40, 32, 40, 107, 32, 60, 32, 53, 41, 32, 41]⟩) ∧ Below w.heap.size w w' := by
  go_enter Tryz.func100, Tryz.ntmps100
  go_wp2
  go_ret
  exact ⟨rfl, Below.refl _ _⟩
set_option maxRecDepth 100000 in
set_option maxHeartbeats 4000000 in
theorem br_d (w : World) : Calls Tryz.prog 100 #[.string ⟨#[107, 32, 73, 78, 84, 32, 44, 32, 75, 69, 89, 32, 40, 32, 107, 32, 41, 32, 44, 32, 67, 72, 69, 67, 75, 32, 40, 32, 40, 107, 32, 60, 32, 53, 41, 32, 41]⟩] w fun e w' => e = .returned (.string ⟨#[32, 40, 32, 107, 32, 73, 78, 84, 32, 44, 32, 75, 69, 89, 32, 40, 32, 107, 32, 41, 32, 44, 32, 67, 72, 69, 67, 75, 32, 40, 32, 40, 107, 32, 60, 32, 53, 41, 32, 41, 32, 41]⟩) ∧ Below w.heap.size w w' := by
  go_enter Tryz.func100, Tryz.ntmps100
  go_wp2
  go_ret
  exact ⟨rfl, Below.refl _ _⟩
set_option maxRecDepth 100000 in
set_option maxHeartbeats 4000000 in
theorem check_le (Q : Nat → Prop) (u : Value) (w : World) (ht : Tr w Q 1 leT u) (hl : LibE w) : Calls Tryz.prog 108 #[.string ⟨#[32, 44, 32]⟩, .agg #[.string ⟨#[60]⟩, .int .i64 0, .int .i64 0, .string ⟨#[]⟩, .string ⟨#[]⟩, u]] w fun e w' => e = .returned (.string ⟨#[32, 44, 32, 67, 72, 69, 67, 75, 32, 40, 32, 40, 107, 32, 60, 32, 53, 41, 32, 41]⟩) ∧ Below w.heap.size w w' := by
  have HT := Lib.hid (And.intro ht hl)
  clear ht hl
  have HB0 : Hid (Below w.heap.size w (w.alloc (.cells #[.string ⟨#[60]⟩, .int .i64 0, .int .i64 0, .string ⟨#[]⟩, .string ⟨#[]⟩, u] 29))) := (Below.refl _ _).alloc (Nat.le_refl _) _
  go_enter Tryz.func108, Tryz.ntmps108
  go_wp2_with (first
    | (go_at_call 138; (with_reducible refine (none_le u _).mono ?_); rintro e w1 ⟨rfl, hb1⟩; have HB1 : Hid (Below w.heap.size w w1) := HB0.out.trans (hb1.mono (by simp)); have EK := hb1.block w.heap.size (by simp); rw [alloc_at rfl _] at EK; have k0 := Lib.cell_of_heap EK 0; have k1 := Lib.cell_of_heap EK 1; have k2 := Lib.cell_of_heap EK 2; have k3 := Lib.cell_of_heap EK 3; have k4 := Lib.cell_of_heap EK 4; have k5 := Lib.cell_of_heap EK 5; simp only [List.getElem?_toArray, List.getElem?_cons_zero, List.getElem?_cons_succ] at k0 k1 k2 k3 k4 k5; clear hb1 EK)
    | (go_at_call 137; (with_reducible refine (exprText_le Q u w1 (HT.out.1.below HB1.out) (HT.out.2.keep HB1.out (Nat.le_refl _))).mono ?_); rintro e w2 ⟨rfl, hb2⟩; have HB2 : Hid (Below w.heap.size w w2) := HB1.out.trans (hb2.mono HB1.out.size); clear hb2)
    | (go_at_call 100; (with_reducible refine (br_e _).mono ?_); rintro e w3 ⟨rfl, hb3⟩; have HB3 : Hid (Below w.heap.size w w3) := HB2.out.trans (hb3.mono HB2.out.size); clear hb3))
  go_ret
  exact ⟨rfl, HB3.out⟩
set_option maxRecDepth 100000 in
set_option maxHeartbeats 4000000 in
theorem enone_s (w : World) : Calls Tryz.prog 120 #[.slice none 0 0, .int .i64 0, .int .i64 8, .func (.func 96) #[] #[]] w fun e w' => e = .returned (.bool true) ∧ Below w.heap.size w w' := by
  have HI : Hid (∀ (F : Value) (W : World), Calls Tryz.prog 172 #[.slice none 0 0, F] W fun e w' => e = .returned (.int .i64 (-1)) ∧ Below W.heap.size W w') := Lib.hid (by
    intro F W
    go_enter Tryz.func172, Tryz.ntmps172
    go_wp2_with (fail)
    refine wp_loop_once ?_
    go_wp2_with (fail)
    go_ret
    exact ⟨rfl, Below.refl _ _⟩)
  have HC : Hid (∀ (F : Value) (W : World), Calls Tryz.prog 151 #[.slice none 0 0, F] W fun e w' => e = .returned (.bool false) ∧ Below W.heap.size W w') := Lib.hid (by
    intro F W
    go_enter Tryz.func151, Tryz.ntmps151
    go_wp2_with (go_at_call 172; (with_reducible refine (HI.out _ _).mono ?_); rintro e w1 ⟨rfl, hb1⟩)
    go_ret
    exact ⟨rfl, hb1⟩)
  go_enter Tryz.func120, Tryz.ntmps120
  go_wp2_with (go_at_call 151; (with_reducible refine (HC.out _ _).mono ?_); rintro e w1 ⟨rfl, hb1⟩; have HB1 := Lib.hid hb1; clear hb1)
  go_ret
  exact ⟨rfl, ((Below.refl _ _).alloc (Nat.le_refl _) _).trans (HB1.out.mono (by simp))⟩
set_option maxRecDepth 100000 in
set_option maxHeartbeats 4000000 in
theorem enone_r (w : World) : Calls Tryz.prog 121 #[.slice none 0 0, .int .i64 0, .int .i64 8, .func (.func 122) #[] #[]] w fun e w' => e = .returned (.bool true) ∧ Below w.heap.size w w' := by
  have HI : Hid (∀ (F : Value) (W : World), Calls Tryz.prog 173 #[.slice none 0 0, F] W fun e w' => e = .returned (.int .i64 (-1)) ∧ Below W.heap.size W w') := Lib.hid (by
    intro F W
    go_enter Tryz.func173, Tryz.ntmps173
    go_wp2_with (fail)
    refine wp_loop_once ?_
    go_wp2_with (fail)
    go_ret
    exact ⟨rfl, Below.refl _ _⟩)
  have HC : Hid (∀ (F : Value) (W : World), Calls Tryz.prog 153 #[.slice none 0 0, F] W fun e w' => e = .returned (.bool false) ∧ Below W.heap.size W w') := Lib.hid (by
    intro F W
    go_enter Tryz.func153, Tryz.ntmps153
    go_wp2_with (go_at_call 173; (with_reducible refine (HI.out _ _).mono ?_); rintro e w1 ⟨rfl, hb1⟩)
    go_ret
    exact ⟨rfl, hb1⟩)
  go_enter Tryz.func121, Tryz.ntmps121
  go_wp2_with (go_at_call 153; (with_reducible refine (HC.out _ _).mono ?_); rintro e w1 ⟨rfl, hb1⟩; have HB1 := Lib.hid hb1; clear hb1)
  go_ret
  exact ⟨rfl, ((Below.refl _ _).alloc (Nat.le_refl _) _).trans (HB1.out.mono (by simp))⟩
end Go.Proofs.YtchebhdndkaheaaGreatDoor

/- The chapter's example of layer 6: CREATE TABLE t (k INT, KEY (k), CHECK (k < 5)) may be. -/
namespace Go.Proofs.YtchebhdndkaheaaGreatDoor
open Go.RowKit Go.Lib

/-- What the statement's text leans on. -/
structure CrH (Q : Nat → Prop) (u : Value) (A : Option Addr) (w : World) : Prop where
  tr : Tr w Q 1 leT u
  lib : LibE w
  ty : TyE w
  col : ColS w A 1 [kC]
theorem CrH.below {Q : Nat → Prop} {u : Value} {A : Option Addr} {w W : World} (h : CrH Q u A w) (hb : Below w.heap.size w W) : CrH Q u A W :=
  ⟨h.tr.below hb, h.lib.keep hb (Nat.le_refl _), h.ty.keep hb (Nat.le_refl _), h.col.below hb⟩
theorem kint_join : (⟨(Lib.join (([kC].map fun _ => (⟨#[107, 32, 73, 78, 84]⟩ : ByteArray)).map (·.data.toList)) (⟨#[32, 44, 32]⟩ : ByteArray).data.toList).toArray⟩ : ByteArray) = ⟨#[107, 32, 73, 78, 84]⟩ := by kernel_rfl
theorem kint_len : (Lib.join (([kC].map fun _ => (⟨#[107, 32, 73, 78, 84]⟩ : ByteArray)).map (·.data.toList)) (⟨#[32, 44, 32]⟩ : ByteArray).data.toList).length ≤ 140737488355328 := by
  have h : (Lib.join (([kC].map fun _ => (⟨#[107, 32, 73, 78, 84]⟩ : ByteArray)).map (·.data.toList)) (⟨#[32, 44, 32]⟩ : ByteArray).data.toList).length = 5 := by kernel_rfl
  omega
theorem clisted_k (Q : Nat → Prop) (u : Value) (A : Option Addr) (cap : Nat) (w : World) (hh : CrH Q u A w) : Calls Tryz.prog 133 #[.slice A 1 cap, .func (.func 134) #[] #[]] w fun e w' => e = .returned (.string ⟨#[107, 32, 73, 78, 84]⟩) ∧ Below w.heap.size w w' :=
  clisted_ok A 1 cap [kC] (fun _ => ⟨#[107, 32, 73, 78, 84]⟩) ⟨#[107, 32, 73, 78, 84]⟩ w (by omega) (by omega) hh.col (fun x hx W hW => by
    obtain rfl := List.mem_singleton.1 hx
    exact define_ok W (hh.ty.keep hW (Nat.le_refl _))) kint_join kint_len
theorem det1_load_row {P : Program} {o : Oper} {a : Act} {w : World} (ty : TypeId) (x : Operand) (ho : o.op = .load ty x)
    (g : Nat) (hx : a.eval x = .pointer (some ⟨g, 0, none⟩)) (t : TypeId) (cs : Array Value) (fr : Nat × Nat) (d : TypeDesc) (hg : w.heap[g]? = some (.cells cs t fr))
    (hu : P.underlying ty = some d) (hd : (match d with | .struct _ | .array _ _ => true | _ => false) = true) (hi : (P.info? ty).map (·.size) = some cs.size) : Det1 P (.agg cs) w ((execOp a.eval o).run P w) := by
  unfold execOp
  simp only [ho, hx, Instr.loadAt, Instr.sureAddr, Sem.run_bind, Sem.run_pure, Result.andThen_ok, run_loadVar_row w g t ty cs fr d hg hu hd hi]
  exact Det1_same
set_option maxRecDepth 100000 in
set_option maxHeartbeats 4000000 in
theorem definitions_cr (Q : Nat → Prop) (u : Value) (A : Option Addr) (cap : Nat) (w : World) (hh : CrH Q u A w) : Calls Tryz.prog 101 #[.agg #[.string ⟨#[99, 114, 101, 97, 116, 101]⟩, .string ⟨#[116]⟩, .string ⟨#[]⟩, .slice none 0 0, .slice A 1 cap, .string ⟨#[107]⟩, .slice none 0 0, .slice none 0 0, .string ⟨#[60]⟩, .int .i64 0, .int .i64 0, .string ⟨#[]⟩, .string ⟨#[]⟩, u, .slice none 0 0, .slice none 0 0, .string ⟨#[]⟩, .int .i64 0, .int .i64 0, .string ⟨#[]⟩, .string ⟨#[]⟩, .slice none 0 0, .string ⟨#[]⟩]] w fun e w' => e = .returned (.string ⟨#[107, 32, 73, 78, 84, 32, 44, 32, 75, 69, 89, 32, 40, 32, 107, 32, 41, 32, 44, 32, 67, 72, 69, 67, 75, 32, 40, 32, 40, 107, 32, 60, 32, 53, 41, 32, 41]⟩) ∧ Below w.heap.size w w' := by
  have HT := Lib.hid hh
  clear hh
  have HB0 : Hid (Below w.heap.size w (w.alloc (.cells #[.string ⟨#[99, 114, 101, 97, 116, 101]⟩, .string ⟨#[116]⟩, .string ⟨#[]⟩, .slice none 0 0, .slice A 1 cap, .string ⟨#[107]⟩, .slice none 0 0, .slice none 0 0, .string ⟨#[60]⟩, .int .i64 0, .int .i64 0, .string ⟨#[]⟩, .string ⟨#[]⟩, u, .slice none 0 0, .slice none 0 0, .string ⟨#[]⟩, .int .i64 0, .int .i64 0, .string ⟨#[]⟩, .string ⟨#[]⟩, .slice none 0 0, .string ⟨#[]⟩] 61))) := (Below.refl _ _).alloc (Nat.le_refl _) _
  go_enter Tryz.func101, Tryz.ntmps101
  go_upto_region 1 with (fail)
  refine detL_begin [.val (.pointer (some ⟨w.heap.size, 4, none⟩)), .val (.slice A 1 cap), .val (.string ⟨#[107, 32, 73, 78, 84]⟩), .val (.string ⟨#[107, 32, 73, 78, 84, 32, 44, 32]⟩), .val (.string ⟨#[107, 32, 73, 78, 84, 32, 44, 32, 75, 69, 89]⟩), .val (.pointer (some ⟨w.heap.size, 5, none⟩)), .val (.string ⟨#[107]⟩), .val (.string ⟨#[32, 40, 32, 107, 32, 41]⟩), .val (.string ⟨#[107, 32, 73, 78, 84, 32, 44, 32, 75, 69, 89, 32, 40, 32, 107, 32, 41]⟩), .val (.string ⟨#[107, 32, 73, 78, 84, 32, 44, 32, 75, 69, 89, 32, 40, 32, 107, 32, 41]⟩)] 10 (by kernel_rfl) ?_
  refine detL_val (by kernel_rfl) (yields_of rfl fun w1 hb1 => ?_) ?_
  · have hc1 := bcellD hb1
    clear hb1
    go_simp
    exact Det1_same
  simp only [Act.put, List.setIfInBounds_toArray, List.set_cons_zero, List.set_cons_succ]
  refine detL_val (by kernel_rfl) (yields_of rfl fun w1 hb1 => ?_) ?_
  · have hc1 := bcellD hb1
    clear hb1
    go_simp
    exact Det1_same
  simp only [Act.put, List.setIfInBounds_toArray, List.set_cons_zero, List.set_cons_succ]
  refine detL_val (by kernel_rfl) (yields_of rfl fun w1 hb1 => ?_) ?_
  · have hc1 := bcellD hb1
    have HB1 := Lib.hid (HB0.out.drew.trans (hb1.mono (by simp)))
    clear hb1
    go_simp
    exact Det1_enter (clisted_k Q u A cap w1 (HT.out.below HB1.out))
  simp only [Act.put, List.setIfInBounds_toArray, List.set_cons_zero, List.set_cons_succ]
  refine detL_val (by kernel_rfl) (yields_of rfl fun w1 hb1 => ?_) ?_
  · have hc1 := bcellD hb1
    clear hb1
    go_simp
    exact Det1_same
  simp only [Act.put, List.setIfInBounds_toArray, List.set_cons_zero, List.set_cons_succ]
  refine detL_val (by kernel_rfl) (yields_of rfl fun w1 hb1 => ?_) ?_
  · have hc1 := bcellD hb1
    clear hb1
    go_simp
    exact Det1_same
  simp only [Act.put, List.setIfInBounds_toArray, List.set_cons_zero, List.set_cons_succ]
  refine detL_val (by kernel_rfl) (yields_of rfl fun w1 hb1 => ?_) ?_
  · have hc1 := bcellD hb1
    clear hb1
    go_simp
    exact Det1_same
  simp only [Act.put, List.setIfInBounds_toArray, List.set_cons_zero, List.set_cons_succ]
  refine detL_val (by kernel_rfl) (yields_of rfl fun w1 hb1 => ?_) ?_
  · have hc1 := bcellD hb1
    clear hb1
    go_simp
    exact Det1_same
  simp only [Act.put, List.setIfInBounds_toArray, List.set_cons_zero, List.set_cons_succ]
  refine detL_val (by kernel_rfl) (yields_of rfl fun w1 hb1 => ?_) ?_
  · have hc1 := bcellD hb1
    clear hb1
    go_simp
    exact Det1_enter (br_k _)
  simp only [Act.put, List.setIfInBounds_toArray, List.set_cons_zero, List.set_cons_succ]
  refine detL_val (by kernel_rfl) (yields_of rfl fun w1 hb1 => ?_) ?_
  · have hc1 := bcellD hb1
    clear hb1
    go_simp
    exact Det1_same
  simp only [Act.put, List.setIfInBounds_toArray, List.set_cons_zero, List.set_cons_succ]
  refine detL_val (by kernel_rfl) (yields_of rfl fun w1 hb1 => ?_) ?_
  · have hc1 := bcellD hb1
    clear hb1
    go_simp
    exact Det1_same
  simp only [Act.put, List.setIfInBounds_toArray, List.set_cons_zero, List.set_cons_succ]
  refine detL_done (by kernel_rfl) fun w1 hw1 => ?_
  have HB1 : Hid (Below w.heap.size w w1) := HB0.out.drew.trans (hw1.below.mono (by simp))
  have EK : w1.heap[w.heap.size]? = some (.cells #[.string ⟨#[99, 114, 101, 97, 116, 101]⟩, .string ⟨#[116]⟩, .string ⟨#[]⟩, .slice none 0 0, .slice A 1 cap, .string ⟨#[107]⟩, .slice none 0 0, .slice none 0 0, .string ⟨#[60]⟩, .int .i64 0, .int .i64 0, .string ⟨#[]⟩, .string ⟨#[]⟩, u, .slice none 0 0, .slice none 0 0, .string ⟨#[]⟩, .int .i64 0, .int .i64 0, .string ⟨#[]⟩, .string ⟨#[]⟩, .slice none 0 0, .string ⟨#[]⟩] 61 (0, 0)) := (hw1.below.block w.heap.size (by simp)).trans (alloc_at rfl _)
  have k6 := Lib.cell_of_heap EK 6
  have k7 := Lib.cell_of_heap EK 7
  have k8 := Lib.cell_of_heap EK 8
  have k9 := Lib.cell_of_heap EK 9
  have k10 := Lib.cell_of_heap EK 10
  have k11 := Lib.cell_of_heap EK 11
  have k12 := Lib.cell_of_heap EK 12
  have k13 := Lib.cell_of_heap EK 13
  simp only [List.getElem?_toArray, List.getElem?_cons_zero, List.getElem?_cons_succ] at k6 k7 k8 k9 k10 k11 k12 k13
  have hbl := lt_of_block EK
  clear hw1 EK
  go_wp2_with (fail)
  refine wp_loop_once ?_
  go_wp2_with (fail)
  refine wp_loop_once ?_
  go_wp2_with (go_at_call 108; (with_reducible refine (check_le Q u w1 (HT.out.tr.below HB1.out) (HT.out.lib.keep HB1.out (Nat.le_refl _))).mono ?_); rintro e w2 ⟨rfl, hb2⟩; have HB2 : Hid (Below w.heap.size w w2) := HB1.out.trans (hb2.mono HB1.out.size); clear hb2)
  go_ret
  exact ⟨rfl, HB2.out⟩
set_option maxRecDepth 100000 in
set_option maxHeartbeats 4000000 in
theorem written_cr (Q : Nat → Prop) (u : Value) (A : Option Addr) (cap : Nat) (w : World) (hh : CrH Q u A w) : Calls Tryz.prog 82 #[.agg #[.string ⟨#[99, 114, 101, 97, 116, 101]⟩, .string ⟨#[116]⟩, .string ⟨#[]⟩, .slice none 0 0, .slice A 1 cap, .string ⟨#[107]⟩, .slice none 0 0, .slice none 0 0, .string ⟨#[60]⟩, .int .i64 0, .int .i64 0, .string ⟨#[]⟩, .string ⟨#[]⟩, u, .slice none 0 0, .slice none 0 0, .string ⟨#[]⟩, .int .i64 0, .int .i64 0, .string ⟨#[]⟩, .string ⟨#[]⟩, .slice none 0 0, .string ⟨#[]⟩]] w fun e w' => e = .returned (.string ⟨#[67, 82, 69, 65, 84, 69, 32, 84, 65, 66, 76, 69, 32, 116, 32, 40, 32, 107, 32, 73, 78, 84, 32, 44, 32, 75, 69, 89, 32, 40, 32, 107, 32, 41, 32, 44, 32, 67, 72, 69, 67, 75, 32, 40, 32, 40, 107, 32, 60, 32, 53, 41, 32, 41, 32, 41]⟩) ∧ Below w.heap.size w w' := by
  have HT := Lib.hid hh
  clear hh
  have HB0 : Hid (Below w.heap.size w (w.alloc (.cells #[.string ⟨#[99, 114, 101, 97, 116, 101]⟩, .string ⟨#[116]⟩, .string ⟨#[]⟩, .slice none 0 0, .slice A 1 cap, .string ⟨#[107]⟩, .slice none 0 0, .slice none 0 0, .string ⟨#[60]⟩, .int .i64 0, .int .i64 0, .string ⟨#[]⟩, .string ⟨#[]⟩, u, .slice none 0 0, .slice none 0 0, .string ⟨#[]⟩, .int .i64 0, .int .i64 0, .string ⟨#[]⟩, .string ⟨#[]⟩, .slice none 0 0, .string ⟨#[]⟩] 61))) := (Below.refl _ _).alloc (Nat.le_refl _) _
  go_enter Tryz.func82, Tryz.ntmps82
  go_upto_region 3 with (fail)
  refine detL_begin [.val (.pointer (some ⟨w.heap.size, 1, none⟩)), .val (.string ⟨#[116]⟩), .val (.string ⟨#[67, 82, 69, 65, 84, 69, 32, 84, 65, 66, 76, 69, 32, 116]⟩), .val (.agg #[.string ⟨#[99, 114, 101, 97, 116, 101]⟩, .string ⟨#[116]⟩, .string ⟨#[]⟩, .slice none 0 0, .slice A 1 cap, .string ⟨#[107]⟩, .slice none 0 0, .slice none 0 0, .string ⟨#[60]⟩, .int .i64 0, .int .i64 0, .string ⟨#[]⟩, .string ⟨#[]⟩, u, .slice none 0 0, .slice none 0 0, .string ⟨#[]⟩, .int .i64 0, .int .i64 0, .string ⟨#[]⟩, .string ⟨#[]⟩, .slice none 0 0, .string ⟨#[]⟩]), .val (.string ⟨#[107, 32, 73, 78, 84, 32, 44, 32, 75, 69, 89, 32, 40, 32, 107, 32, 41, 32, 44, 32, 67, 72, 69, 67, 75, 32, 40, 32, 40, 107, 32, 60, 32, 53, 41, 32, 41]⟩), .val (.string ⟨#[32, 40, 32, 107, 32, 73, 78, 84, 32, 44, 32, 75, 69, 89, 32, 40, 32, 107, 32, 41, 32, 44, 32, 67, 72, 69, 67, 75, 32, 40, 32, 40, 107, 32, 60, 32, 53, 41, 32, 41, 32, 41]⟩), .val (.string ⟨#[67, 82, 69, 65, 84, 69, 32, 84, 65, 66, 76, 69, 32, 116, 32, 40, 32, 107, 32, 73, 78, 84, 32, 44, 32, 75, 69, 89, 32, 40, 32, 107, 32, 41, 32, 44, 32, 67, 72, 69, 67, 75, 32, 40, 32, 40, 107, 32, 60, 32, 53, 41, 32, 41, 32, 41]⟩), .val (.string ⟨#[67, 82, 69, 65, 84, 69, 32, 84, 65, 66, 76, 69, 32, 116, 32, 40, 32, 107, 32, 73, 78, 84, 32, 44, 32, 75, 69, 89, 32, 40, 32, 107, 32, 41, 32, 44, 32, 67, 72, 69, 67, 75, 32, 40, 32, 40, 107, 32, 60, 32, 53, 41, 32, 41, 32, 41]⟩)] 8 (by kernel_rfl) ?_
  refine detL_val (by kernel_rfl) (yields_of rfl fun w1 hb1 => ?_) ?_
  · have hc1 := bcellD hb1
    clear hb1
    go_simp
    exact Det1_same
  simp only [Act.put, List.setIfInBounds_toArray, List.set_cons_zero, List.set_cons_succ]
  refine detL_val (by kernel_rfl) (yields_of rfl fun w1 hb1 => ?_) ?_
  · have hc1 := bcellD hb1
    clear hb1
    go_simp
    exact Det1_same
  simp only [Act.put, List.setIfInBounds_toArray, List.set_cons_zero, List.set_cons_succ]
  refine detL_val (by kernel_rfl) (yields_of rfl fun w1 hb1 => ?_) ?_
  · have hc1 := bcellD hb1
    clear hb1
    go_simp
    exact Det1_same
  simp only [Act.put, List.setIfInBounds_toArray, List.set_cons_zero, List.set_cons_succ]
  refine detL_val (by kernel_rfl) (yields_of rfl fun w1 hb1 => det1_load_row 61 (.tmp 1) rfl w.heap.size rfl 61 _ (0, 0) _ ((hb1.block w.heap.size (by simp)).trans (alloc_at rfl _)) Tryz.underlying61 rfl stSize) ?_
  simp only [Act.put, List.setIfInBounds_toArray, List.set_cons_zero, List.set_cons_succ]
  refine detL_val (by kernel_rfl) (yields_of rfl fun w1 hb1 => ?_) ?_
  · have hc1 := bcellD hb1
    have HB1 := Lib.hid (HB0.out.drew.trans (hb1.mono (by simp)))
    clear hb1
    go_simp
    exact Det1_enter (definitions_cr Q u A cap w1 (HT.out.below HB1.out))
  simp only [Act.put, List.setIfInBounds_toArray, List.set_cons_zero, List.set_cons_succ]
  refine detL_val (by kernel_rfl) (yields_of rfl fun w1 hb1 => ?_) ?_
  · have hc1 := bcellD hb1
    clear hb1
    go_simp
    exact Det1_enter (br_d _)
  simp only [Act.put, List.setIfInBounds_toArray, List.set_cons_zero, List.set_cons_succ]
  refine detL_val (by kernel_rfl) (yields_of rfl fun w1 hb1 => ?_) ?_
  · have hc1 := bcellD hb1
    clear hb1
    go_simp
    exact Det1_same
  simp only [Act.put, List.setIfInBounds_toArray, List.set_cons_zero, List.set_cons_succ]
  refine detL_val (by kernel_rfl) (yields_of rfl fun w1 hb1 => ?_) ?_
  · have hc1 := bcellD hb1
    clear hb1
    go_simp
    exact Det1_same
  simp only [Act.put, List.setIfInBounds_toArray, List.set_cons_zero, List.set_cons_succ]
  refine detL_done (by kernel_rfl) fun w1 hw1 => ?_
  have HB1 : Hid (Below w.heap.size w w1) := HB0.out.drew.trans (hw1.below.mono (by simp))
  clear hw1
  go_wp2
  go_ret
  exact ⟨rfl, HB1.out⟩
end Go.Proofs.YtchebhdndkaheaaGreatDoor
