import Derived.Test.YtnahejljelbbgaaGreatDoorLp
/- Join. -/
namespace Go.Proofs.YtnahejljelbbgaaGreatDoor
open Go.RowKit Go.Lib

theorem joinO_snoc : ∀ (l : List Tk) (x : Tk), joinO (l ++ [x]) = if l = [] then tkO x else joinO l ++ 32 :: tkO x
  | [], x => by simp [joinO]
  | [t], x => by simp [joinO]
  | t :: u :: l, x => by
    have ih := joinO_snoc (u :: l) x
    rw [if_neg (by simp)] at ih ⊢
    rw [List.cons_append, List.cons_append, joinO, ← List.cons_append, ih, joinO]
    simp
theorem joinO_len : ∀ l : List Tk, (∀ t ∈ l, t.may = true) → (joinO l).length ≤ 101 * l.length
  | [], _ => by simp [joinO]
  | [t], h => by have := tkO_len (h t List.mem_cons_self); simp [joinO]; omega
  | t :: u :: l, h => by
    have ih := joinO_len (u :: l) fun x hx => h x (List.mem_cons_of_mem _ hx)
    have := tkO_len (h t List.mem_cons_self)
    rw [joinO]
    simp at ih ⊢
    omega
theorem Bld.row_ne {W : World} {B b : Nat} {l : List UInt8} (h : Bld W B b l) (hb : b < W.heap.size) (o : Obj) : ∀ p v, (W.alloc o).heap[b]? = some (.cells #[p, v] 43 (0, 0)) → v.ownBlock ≠ some W.heap.size := by
  intro p v hp hv
  rw [((Below.refl W.heap.size W).alloc (Nat.le_refl _) o).block b hb] at hp
  have key : ∀ p0, Lib.BuilderAt 43 5 B b p0 (byteCells l) W → False := by
    rintro p0 ⟨_, v0, h2, h3, _⟩
    rw [h2] at hp
    simp at hp
    rw [← hp.2] at hv
    have := (h3.lt _ hv).2
    omega
  rcases h with h | h
  · exact key _ h
  · exact key _ h
theorem Bld.lt {W : World} {B b : Nat} {l : List UInt8} (h : Bld W B b l) : b < W.heap.size := by
  rcases h with ⟨_, v, h2, _⟩ | ⟨_, v, h2, _⟩ <;> exact (Array.getElem?_eq_some_iff.1 h2).1
theorem sz_mk' (l : List UInt8) : (⟨l.toArray⟩ : ByteArray).size = l.length := by simp [ByteArray.size]

set_option maxRecDepth 100000 in
set_option maxHeartbeats 4000000 in
theorem join_long (A : Option Addr) (n cap : Nat) (l : List Tk) (w : World) (hn : n ≤ 1000) (hv : Toks w w.heap.size A n l) (hs : ShortT l) (h4 : 400 < n) :
    Calls Tryz.prog 6 #[.slice A n cap] w fun e w' => e = .returned (.tuple #[.string ⟨#[]⟩, .int .i64 1]) ∧ Below w.heap.size w w' := by
  have HV := Lib.hid hv
  have HL := Lib.hid hv.1
  have HS := Lib.hid hs
  clear hv hs
  go_enter Tryz.func6, Tryz.ntmps6
  go_wp2
  go_ret2
  exact ⟨rfl, Below.refl _ _⟩

set_option maxRecDepth 100000 in
set_option maxHeartbeats 4000000 in
theorem join_bad (A : Option Addr) (n cap : Nat) (l : List Tk) (w : World) (hn : n ≤ 1000) (hv : Toks w w.heap.size A n l) (hs : ShortT l) (h4 : n ≤ 400) (hm : l.all Tk.may = false) :
    Calls Tryz.prog 6 #[.slice A n cap] w fun e w' => e = .returned (.tuple #[.string ⟨#[]⟩, .int .i64 1]) ∧ Below w.heap.size w w' := by
  have HV := Lib.hid hv
  have HL := Lib.hid hv.1
  have HS := Lib.hid hs
  clear hv hs
  have HM := Lib.hid hm
  clear hm
  go_enter Tryz.func6, Tryz.ntmps6
  go_wp2_with (go_at_call 13; refine ((tcontains_any A n cap l _ hn HV.out HS.out).mono (fun _ _ h => (HM.out ▸ h : _ = Ending.returned (.bool (!false)) ∧ _))).mono ?_; rintro e w1 ⟨rfl, hb1⟩)
  go_ret2
  exact ⟨rfl, hb1⟩

set_option maxRecDepth 100000 in
set_option maxHeartbeats 4000000 in
theorem join_yes (A : Option Addr) (n cap : Nat) (l : List Tk) (w : World) (hn : n ≤ 1000) (hv : Toks w w.heap.size A n l) (hs : ShortT l) (h4 : n ≤ 400) (hm : l.all Tk.may = true) (hl : LibE w) :
    Calls Tryz.prog 6 #[.slice A n cap] w fun e w' => e = .returned (.tuple #[.string ⟨(joinO l).toArray⟩, .int .i64 0]) ∧ Below w.heap.size w w' := by
  have HV := Lib.hid hv
  have HL := Lib.hid hv.1
  have HS := Lib.hid hs
  clear hv hs
  have HM := Lib.hid hm
  have HMA := Lib.hid (List.all_eq_true.1 hm)
  have HLE := Lib.hid hl
  clear hm hl
  go_enter Tryz.func6, Tryz.ntmps6
  go_wp2_with (go_at_call 13; refine ((tcontains_any A n cap l _ hn HV.out HS.out).mono (fun _ _ h => (HM.out ▸ h : _ = Ending.returned (.bool (!true)) ∧ _))).mono ?_; rintro e w1 ⟨rfl, hb1⟩)
  have HB1 := Lib.hid hb1
  have hs1 := hb1.size
  clear hb1
  go_loopw [16] (fun i wr => ∃ k : Nat, k ≤ n ∧ i = .int .i64 k ∧ Below w.heap.size w wr ∧ Hid (Bld wr w.heap.size w1.heap.size (joinO (l.take k)))) (fun i _ => n - (intOf i).toNat)
  case atStart => exact ⟨0, by omega, rfl, HB1.out.alloc hs1 _, Bld.fresh rfl hs1⟩
  case round =>
    obtain ⟨k, hk, rfl, hb, HBL⟩ := hrel
    have hbs := hb.size
    by_cases hlt : k < n
    · skip
      obtain ⟨a, x, rfl, hx, hA, hB⟩ := HV.out.at_ hlt
      have hxs := HS.out x (List.mem_of_getElem? hx)
      obtain ⟨xk, xs, xe⟩ : ∃ k s, x.k = k ∧ (⟨x.s.toArray⟩ : ByteArray) = s := ⟨_, _, rfl, rfl⟩
      have hA' := hA.keep hb (by rw [add_blk]; exact hB)
      have ck := hA'.k
      have cs := hA'.s
      rw [xe.1] at ck
      rw [xe.2] at cs hxs
      have HX := Lib.hid hx
      have HE := Lib.hid xe
      clear hx hA hA' xe
      have hxm := HMA.out x (List.mem_of_getElem? HX.out)
      obtain ⟨q, hq⟩ : ∃ q : ByteArray, q = ⟨(tkO x).toArray⟩ := ⟨_, rfl⟩
      have hqz : q.size ≤ 100 := by rw [hq, sz_mk']; exact tkO_len hxm
      have HW := Lib.hid (fun (W : World) (h : LibE W) => (show Calls Tryz.prog 17 #[.agg #[.int .i64 xk, .string xs]] W fun e w' => e = .returned (.string q) ∧ Below W.heap.size W w' from by
        have := written_any xk xs W h
        have e : tkW xk xs = tkO x := by rw [← HE.out.1, ← HE.out.2]; exact tkW_may hxm
        rw [e, ← hq] at this
        exact this))
      have hjl := joinO_len (l.take k) fun t ht => HMA.out t (List.mem_of_mem_take ht)
      have hlk : (l.take k).length = k := by rw [List.length_take]; have := HL.out; omega
      have HJ := Lib.hid (show (joinO (l.take k)).length ≤ 40400 by rw [hlk] at hjl; omega)
      have HQ := Lib.hid hq
      have HSN := Lib.hid (joinO_snoc (l.take k) x)
      have HTA := Lib.hid (ttake_at HX.out)
      clear hjl hq hxm
      by_cases hk0 : k = 0
      · have hkz : ¬ (0 : Int) < (k : Int) := by omega
        have HNIL := Lib.hid (show l.take k = [] by rw [hk0]; rfl)
        clear hk0 hlk
        go_wp2_with (first
          | (go_at_call 17; refine (HW.out _ (HLE.out.keep (hb.alloc hbs _) (Nat.le_refl _))).mono ?_; rintro e w3 ⟨rfl, hb3⟩; have HB3 := Lib.hid hb3; have hs3 := hb3.size; (try simp at hs3); clear hb3)
          | (go_at_call 16; refine (write_any w.heap.size w1.heap.size (byteCells (joinO (l.take k))) _ w3 ((HBL.out.keep ((Below.refl wr.heap.size wr).alloc (Nat.le_refl _) _) (Nat.le_refl _)).keep HB3.out (Nat.le_refl _)) (by rw [byteCells_len]; have := HJ.out; omega) (by omega)).mono ?_; rintro e w4 ⟨rfl, hbl4, hb4⟩))
        go_roundw
        case rel => exact ⟨k + 1, by omega, by go_num, ((hb.alloc hbs _).trans (HB3.out.mono (by simp; omega))).trans hb4, by
          show Bld _ _ _ _
          rw [HTA.out, HSN.out, if_pos HNIL.out]
          have h := hbl4
          rw [HQ.out, HNIL.out] at h
          have h2 := Bld.written h rfl
          simpa [joinO] using h2⟩
        case measure => simp [intOf]; omega
      · have hkp : (0 : Int) < (k : Int) := by omega
        have hne : l.take k ≠ [] := fun e => by rw [e] at hlk; simp at hlk; omega
        go_wp2_with (first
          | (go_at_call 15; refine (writeByte2_any w.heap.size w1.heap.size (byteCells (joinO (l.take k))) 32 _ (HBL.out.keep ((Below.refl wr.heap.size wr).alloc (Nat.le_refl _) _) (Nat.le_refl _)) (by rw [byteCells_len]; have := HJ.out; omega) (by simp; omega) wr.heap.size (by simp) (by have := HBL.out.lt; omega) (HBL.out.row_ne HBL.out.lt _)).mono ?_; rintro e w2 ⟨rfl, hbl2, hb2, hq2⟩; have t0 : w2.cell? ⟨wr.heap.size, 0, none⟩ = some (.int .i64 xk) := (by rw [Lib.cell_of_heap (hq2.trans (heap_alloc_new wr _))]; rfl); have t1 : w2.cell? ⟨wr.heap.size, 1, none⟩ = some (.string xs) := (by rw [Lib.cell_of_heap (hq2.trans (heap_alloc_new wr _))]; rfl); have HB2 := Lib.hid ((hb.alloc hbs (.cells #[.int .i64 xk, .string xs] 37)).trans hb2); have HBL2 : Hid (Bld w2 w.heap.size w1.heap.size (joinO (l.take k) ++ [32])) := Bld.wrote (c := 32) hbl2 rfl; have hs2 := hb2.size; (try simp at hs2); clear hbl2 hb2 hq2)
          | (go_at_call 17; refine (HW.out _ (HLE.out.keep HB2.out (Nat.le_refl _))).mono ?_; rintro e w3 ⟨rfl, hb3⟩; have HB3 := Lib.hid hb3; have hs3 := hb3.size; (try simp at hs3); clear hb3)
          | (go_at_call 16; refine (write_any w.heap.size w1.heap.size (byteCells (joinO (l.take k) ++ [32])) _ w3 (HBL2.out.keep HB3.out (Nat.le_refl _)) (by rw [byteCells_len, List.length_append]; have := HJ.out; simp; omega) (by omega)).mono ?_; rintro e w4 ⟨rfl, hbl4, hb4⟩))
        go_roundw
        case rel => exact ⟨k + 1, by omega, by go_num, (HB2.out.trans (HB3.out.mono (by omega))).trans hb4, by
          show Bld _ _ _ _
          rw [HTA.out, HSN.out, if_neg hne]
          have h := hbl4
          rw [HQ.out] at h
          have h2 := Bld.written h rfl
          simpa using h2⟩
        case measure => simp [intOf]; omega
    · have HE := Lib.hid (show l.take k = l from List.take_of_length_le (by have := HL.out; omega))
      go_wp2_with (go_at_call 18; refine (Tryz.Builder_String_any w.heap.size w1.heap.size (joinO l) wr (by have h := HBL.out; rw [HE.out] at h; exact h) hbs).mono ?_; rintro e w3 ⟨rfl, hb3⟩)
      go_ret2
      exact ⟨rfl, hb.trans hb3⟩

def joinOk (l : List Tk) : Bool := decide (l.length ≤ 400) && l.all Tk.may
def joinE (l : List Tk) : Int := if joinOk l then 0 else 1
def joinS (l : List Tk) : ByteArray := if joinOk l then ⟨(joinO l).toArray⟩ else ⟨#[]⟩
theorem join_any (A : Option Addr) (n cap : Nat) (l : List Tk) (w : World) (hn : n ≤ 1000) (hv : Toks w w.heap.size A n l) (hs : ShortT l) (hl : LibE w) :
    Calls Tryz.prog 6 #[.slice A n cap] w fun e w' => e = .returned (.tuple #[.string (joinS l), .int .i64 (joinE l)]) ∧ Below w.heap.size w w' := by
  have hll := hv.1
  unfold joinS joinE joinOk
  by_cases h : n ≤ 400
  · rw [decide_eq_true (show l.length ≤ 400 by omega)]
    cases hm : l.all Tk.may with
    | true => exact join_yes A n cap l w hn hv hs h hm hl
    | false => exact join_bad A n cap l w hn hv hs h hm
  · rw [decide_eq_false (show ¬ l.length ≤ 400 by omega)]
    exact join_long A n cap l w hn hv hs (by omega)
end Go.Proofs.YtnahejljelbbgaaGreatDoor
