import Derived.Test.YtnahejljelbbgaaVu
import Derived.Laws.OwnMore
import Derived.Lib.AppendStr
import Derived.Lib.UnsafeStr
import Derived.Laws.BytesArg
import Derived.Outline
/- The octets of a number: layNumber. -/
namespace Go.Proofs.Ytnahejljelbbgaa
open Go.RowKit Go.Lib

theorem infoByte : (Try.prog.info? 5).map (fun i => (i.zero, i.size, i.bytes)) = some (some (.int .u8 0), 1, 1) := by kernel_rfl

/-- The slice v owns these octets. -/
def Oct (W : World) (B : Nat) (v : Value) (l : List UInt8) : Prop := W.ownsRow B 5 1 v l.length (byteCells l)

def octD (u d : Int) : UInt8 := UInt8.ofNat (u / d % 256).toNat
/-- The eight octets of a number that is not below 0, the highest first. -/
def be8 (u : Int) : List UInt8 := [octD u 72057594037927936, octD u 281474976710656, octD u 1099511627776, octD u 4294967296, octD u 16777216, octD u 65536, octD u 256, octD u 1]
theorem octD_val (u d : Int) : ((octD u d).toNat : Int) = u / d % 256 := by
  unfold octD
  have h1 := Int.emod_nonneg (u / d) (show (256 : Int) ≠ 0 by decide)
  have h2 := Int.emod_lt_of_pos (u / d) (show (0 : Int) < 256 by decide)
  rw [UInt8.toNat_ofNat']
  omega

theorem wrap_top {n : Int} (h : In64 n) : IntKind.u64.wrap (IntKind.u64.wrap n + 9223372036854775808) = n + 9223372036854775808 := by
  unfold In64 at h
  simp only [IntKind.wrap, IntKind.signed, IntKind.bits]
  simp
  omega

theorem byteCells_one (l : List UInt8) : ∀ u ∈ byteCells l, u.oneCell' = true := by
  intro u hu
  obtain ⟨b, _, rfl⟩ := List.mem_map.1 hu
  rfl
theorem byteCells_app (l r : List UInt8) : byteCells (l ++ r) = byteCells l ++ byteCells r := by simp [byteCells]

/-- One octet more. -/
theorem Oct.snoc {W : World} {B : Nat} {v : Value} {l : List UInt8} {b : UInt8} {x : Int} (h : W.ownsRow B 5 1 v (l.length + 1) (byteCells l ++ [.int .u8 x])) (hx : (b.toNat : Int) = x) : Oct W B v (l ++ [b]) := by
  unfold Oct
  rw [byteCells_app, List.length_append]
  subst hx
  exact h
theorem one_cell {W : World} {t : TypeId} {x : Value} : ∀ j u, [x][j]? = some u → (W.alloc (.cells #[x] t)).cell? ((⟨W.heap.size, 0, none⟩ : Addr).add j) = some u := by
  intro j u h
  cases j with
  | zero => simp at h; subst h; simp [Addr.add, go_sem]
  | succ j => simp at h
theorem oct_below {B : Nat} {w W W' : World} {l : List UInt8} {v : Value} {o : Obj} (hb : Below B w W) (hB : B ≤ w.heap.size) (hown : Oct W B v l) (hg : (W.alloc o).grownBy W' v.ownBlock) : Below B w W' := by
  have hs := hb.size
  exact (hb.alloc (by omega) o).grown hg (by simp; omega) fun g hg' => (hown.lt g hg').1

set_option maxRecDepth 100000 in
set_option maxHeartbeats 8000000 in
theorem lay_any (v : Value) (l : List UInt8) (n : Int) (w : World) (B : Nat) (hB : B ≤ w.heap.size) (hn : In64 n) (hl : l.length ≤ 100) (hown : Oct w B v l) :
    Calls Try.prog 17 #[v, .int .i64 n] w fun e w' => ∃ v', e = .returned v' ∧ Oct w' B v' (l ++ be8 (n + 9223372036854775808)) ∧ Below B w w' := by
  obtain ⟨i0, hi, hz0, hz1, hz2⟩ := info_parts infoByte
  have h1 : 0 ≤ n + 9223372036854775808 := by have := hn.1; omega
  have h2 : n + 9223372036854775808 < 18446744073709551616 := by have := hn.2; omega
  have hU := wrap_top hn
  clear hn
  obtain ⟨U, hUe⟩ : ∃ U, U = n + 9223372036854775808 := ⟨_, rfl⟩
  rw [← hUe] at hU h1 h2 ⊢
  have H2 := Lib.hid h2
  clear h2
  have HO := Lib.hid hown
  have HE := Lib.hid hUe
  clear hown hUe
  go_enter Try.func17, Try.ntmps17
  go_wp2
  go_loopw [0, 10] (fun v i wr => ∃ k : Nat, k ≤ 8 ∧ i = .int .i64 k ∧ Oct wr B v (l ++ (be8 U).take k) ∧ Below B w wr) (fun _ i _ => 8 - (intOf i).toNat)
  case atStart => exact ⟨0, by omega, rfl, by simpa using HO.out, Below.refl _ _⟩
  case round =>
    obtain ⟨k, hk, rfl, hown, hb⟩ := hrel
    have hcase : k = 0 ∨ k = 1 ∨ k = 2 ∨ k = 3 ∨ k = 4 ∨ k = 5 ∨ k = 6 ∨ k = 7 ∨ k = 8 := by omega
    clear hk
    have hsz := hb.size
    obtain ⟨L, hL, hlen⟩ : ∃ L, L = l ++ (be8 U).take k ∧ L.length ≤ 108 := ⟨_, rfl, by simp [be8]; omega⟩
    rw [← hL] at hown
    have HL := Lib.hid hL
    clear hL
    rcases hcase with rfl | rfl | rfl | rfl | rfl | rfl | rfl | rfl | rfl
    · go_wp2_with (at_builtin; refine wpList_append_own _ rfl _ _ 38 rfl B 5 i0 (.int .u8 0) 1 1 Try.underlying38 hi hz0 hz1 hz2 rfl (by decide) _ _ _ rfl (World.ownsRow.alloc hown _) ⟨wr.heap.size, 0, none⟩ 1 1 [.int .u8 (U / 72057594037927936 % 256)] rfl rfl ?c1 ?c2 ?c3 ?c4 ?c5 ?_)
      case c1 => exact one_cell
      case c2 => intro u hu; simp at hu; subst hu; rfl
      case c3 => unfold maxLen; omega
      case c4 => omega
      case c5 => simp; omega
      intro v' w1 hown' hgrow _
      have hb1 := oct_below hb hB hown hgrow
      have ho1 := Oct.snoc (b := octD U 72057594037927936) hown' (by rw [octD_val])
      have HO1 := Lib.hid ho1
      clear hown' ho1 hgrow hown
      go_wp2
      go_roundw
      case rel => exact ⟨1, by omega, by go_num, by have h := HO1.out; rw [HL.out] at h; simpa [be8] using h, hb1⟩
      case measure => simp [intOf]
    · go_wp2_with (at_builtin; refine wpList_append_own _ rfl _ _ 38 rfl B 5 i0 (.int .u8 0) 1 1 Try.underlying38 hi hz0 hz1 hz2 rfl (by decide) _ _ _ rfl (World.ownsRow.alloc hown _) ⟨wr.heap.size, 0, none⟩ 1 1 [.int .u8 (U / 281474976710656 % 256)] rfl rfl ?c1 ?c2 ?c3 ?c4 ?c5 ?_)
      case c1 => exact one_cell
      case c2 => intro u hu; simp at hu; subst hu; rfl
      case c3 => unfold maxLen; omega
      case c4 => omega
      case c5 => simp; omega
      intro v' w1 hown' hgrow _
      have hb1 := oct_below hb hB hown hgrow
      have ho1 := Oct.snoc (b := octD U 281474976710656) hown' (by rw [octD_val])
      have HO1 := Lib.hid ho1
      clear hown' ho1 hgrow hown
      go_wp2
      go_roundw
      case rel => exact ⟨2, by omega, by go_num, by have h := HO1.out; rw [HL.out] at h; simpa [be8] using h, hb1⟩
      case measure => simp [intOf]
    · go_wp2_with (at_builtin; refine wpList_append_own _ rfl _ _ 38 rfl B 5 i0 (.int .u8 0) 1 1 Try.underlying38 hi hz0 hz1 hz2 rfl (by decide) _ _ _ rfl (World.ownsRow.alloc hown _) ⟨wr.heap.size, 0, none⟩ 1 1 [.int .u8 (U / 1099511627776 % 256)] rfl rfl ?c1 ?c2 ?c3 ?c4 ?c5 ?_)
      case c1 => exact one_cell
      case c2 => intro u hu; simp at hu; subst hu; rfl
      case c3 => unfold maxLen; omega
      case c4 => omega
      case c5 => simp; omega
      intro v' w1 hown' hgrow _
      have hb1 := oct_below hb hB hown hgrow
      have ho1 := Oct.snoc (b := octD U 1099511627776) hown' (by rw [octD_val])
      have HO1 := Lib.hid ho1
      clear hown' ho1 hgrow hown
      go_wp2
      go_roundw
      case rel => exact ⟨3, by omega, by go_num, by have h := HO1.out; rw [HL.out] at h; simpa [be8] using h, hb1⟩
      case measure => simp [intOf]
    · go_wp2_with (at_builtin; refine wpList_append_own _ rfl _ _ 38 rfl B 5 i0 (.int .u8 0) 1 1 Try.underlying38 hi hz0 hz1 hz2 rfl (by decide) _ _ _ rfl (World.ownsRow.alloc hown _) ⟨wr.heap.size, 0, none⟩ 1 1 [.int .u8 (U / 4294967296 % 256)] rfl rfl ?c1 ?c2 ?c3 ?c4 ?c5 ?_)
      case c1 => exact one_cell
      case c2 => intro u hu; simp at hu; subst hu; rfl
      case c3 => unfold maxLen; omega
      case c4 => omega
      case c5 => simp; omega
      intro v' w1 hown' hgrow _
      have hb1 := oct_below hb hB hown hgrow
      have ho1 := Oct.snoc (b := octD U 4294967296) hown' (by rw [octD_val])
      have HO1 := Lib.hid ho1
      clear hown' ho1 hgrow hown
      go_wp2
      go_roundw
      case rel => exact ⟨4, by omega, by go_num, by have h := HO1.out; rw [HL.out] at h; simpa [be8] using h, hb1⟩
      case measure => simp [intOf]
    · go_wp2_with (at_builtin; refine wpList_append_own _ rfl _ _ 38 rfl B 5 i0 (.int .u8 0) 1 1 Try.underlying38 hi hz0 hz1 hz2 rfl (by decide) _ _ _ rfl (World.ownsRow.alloc hown _) ⟨wr.heap.size, 0, none⟩ 1 1 [.int .u8 (U / 16777216 % 256)] rfl rfl ?c1 ?c2 ?c3 ?c4 ?c5 ?_)
      case c1 => exact one_cell
      case c2 => intro u hu; simp at hu; subst hu; rfl
      case c3 => unfold maxLen; omega
      case c4 => omega
      case c5 => simp; omega
      intro v' w1 hown' hgrow _
      have hb1 := oct_below hb hB hown hgrow
      have ho1 := Oct.snoc (b := octD U 16777216) hown' (by rw [octD_val])
      have HO1 := Lib.hid ho1
      clear hown' ho1 hgrow hown
      go_wp2
      go_roundw
      case rel => exact ⟨5, by omega, by go_num, by have h := HO1.out; rw [HL.out] at h; simpa [be8] using h, hb1⟩
      case measure => simp [intOf]
    · go_wp2_with (at_builtin; refine wpList_append_own _ rfl _ _ 38 rfl B 5 i0 (.int .u8 0) 1 1 Try.underlying38 hi hz0 hz1 hz2 rfl (by decide) _ _ _ rfl (World.ownsRow.alloc hown _) ⟨wr.heap.size, 0, none⟩ 1 1 [.int .u8 (U / 65536 % 256)] rfl rfl ?c1 ?c2 ?c3 ?c4 ?c5 ?_)
      case c1 => exact one_cell
      case c2 => intro u hu; simp at hu; subst hu; rfl
      case c3 => unfold maxLen; omega
      case c4 => omega
      case c5 => simp; omega
      intro v' w1 hown' hgrow _
      have hb1 := oct_below hb hB hown hgrow
      have ho1 := Oct.snoc (b := octD U 65536) hown' (by rw [octD_val])
      have HO1 := Lib.hid ho1
      clear hown' ho1 hgrow hown
      go_wp2
      go_roundw
      case rel => exact ⟨6, by omega, by go_num, by have h := HO1.out; rw [HL.out] at h; simpa [be8] using h, hb1⟩
      case measure => simp [intOf]
    · go_wp2_with (at_builtin; refine wpList_append_own _ rfl _ _ 38 rfl B 5 i0 (.int .u8 0) 1 1 Try.underlying38 hi hz0 hz1 hz2 rfl (by decide) _ _ _ rfl (World.ownsRow.alloc hown _) ⟨wr.heap.size, 0, none⟩ 1 1 [.int .u8 (U / 256 % 256)] rfl rfl ?c1 ?c2 ?c3 ?c4 ?c5 ?_)
      case c1 => exact one_cell
      case c2 => intro u hu; simp at hu; subst hu; rfl
      case c3 => unfold maxLen; omega
      case c4 => omega
      case c5 => simp; omega
      intro v' w1 hown' hgrow _
      have hb1 := oct_below hb hB hown hgrow
      have ho1 := Oct.snoc (b := octD U 256) hown' (by rw [octD_val])
      have HO1 := Lib.hid ho1
      clear hown' ho1 hgrow hown
      go_wp2
      go_roundw
      case rel => exact ⟨7, by omega, by go_num, by have h := HO1.out; rw [HL.out] at h; simpa [be8] using h, hb1⟩
      case measure => simp [intOf]
    · go_wp2_with (at_builtin; refine wpList_append_own _ rfl _ _ 38 rfl B 5 i0 (.int .u8 0) 1 1 Try.underlying38 hi hz0 hz1 hz2 rfl (by decide) _ _ _ rfl (World.ownsRow.alloc hown _) ⟨wr.heap.size, 0, none⟩ 1 1 [.int .u8 (U % 256)] rfl rfl ?c1 ?c2 ?c3 ?c4 ?c5 ?_)
      case c1 => exact one_cell
      case c2 => intro u hu; simp at hu; subst hu; rfl
      case c3 => unfold maxLen; omega
      case c4 => omega
      case c5 => simp; omega
      intro v' w1 hown' hgrow _
      have hb1 := oct_below hb hB hown hgrow
      have ho1 := Oct.snoc (b := octD U 1) hown' (by rw [octD_val, Int.ediv_one])
      have HO1 := Lib.hid ho1
      clear hown' ho1 hgrow hown
      go_wp2
      go_roundw
      case rel => exact ⟨8, by omega, by go_num, by have h := HO1.out; rw [HL.out] at h; simpa [be8] using h, hb1⟩
      case measure => simp [intOf]
    · have HO1 := Lib.hid hown
      clear hown
      go_wp2
      go_ret
      exact ⟨_, rfl, by have h := HO1.out; rw [HL.out] at h; simpa [be8] using h, hb⟩
end Go.Proofs.Ytnahejljelbbgaa
