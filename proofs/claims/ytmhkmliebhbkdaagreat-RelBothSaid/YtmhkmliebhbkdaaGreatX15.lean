import Derived.Test.YtmhkmliebhbkdaaGreatX01
import Derived.Orders
import Derived.Tactics
import Derived.Below
import Derived.Lib.Hide
import Derived.KernelRfl

/- A region whose order Go leaves open, with two loads that may come behind its first store: DetB, as DetA, but the last few may come up beside them; and operations that hand on what another one has made. No program stands in it. -/
namespace Go.Proofs.YtmhkmliebhbkdaaGreat
open Go.RowKit

inductive TellM where
  | val (v : Value)
  | rel (R : Value → List Nat → World → Prop)
  | pure

/-- Number i comes to this value, said ahead or read off the slots. -/
def Told (P : Program) (vals : List TellM) (i : Nat) (oi : Oper) (a : Act) (v : Value) : Prop :=
  vals[i]? = some (.val v) ∨ (vals[i]? = some .pure ∧ ∀ w, (execOp a.eval oi).run P w = .ok (.value v) w)

theorem Told.one {P : Program} {vals : List TellM} {i : Nat} {oi : Oper} {a : Act} {v v' : Value} (h : Told P vals i oi a v) (w : World) (h' : Told P vals i oi a v') : v = v' := by
  rcases h with h | ⟨h, r⟩ <;> rcases h' with h' | ⟨h', r'⟩
  · rw [h] at h'; injection h' with e; injection e
  · rw [h] at h'; injection h' with e; cases e
  · rw [h] at h'; injection h' with e; cases e
  · have := (r w).symm.trans (r' w)
    injection this with e _
    injection e
theorem Told.not {P : Program} {vals : List TellM} {i : Nat} {oi : Oper} {a : Act} {v : Value} {R : Value → List Nat → World → Prop} (h : Told P vals i oi a v) (h' : vals[i]? = some (.rel R)) : False := by
  rcases h with h | ⟨h, _⟩ <;> (rw [h] at h'; injection h' with e; cases e)
theorem Told.of_same {P : Program} {vals : List TellM} {i : Nat} {oi : Oper} {a a' : Act} {v : Value} (h : Told P vals i oi a v) (he : execOp a'.eval oi = execOp a.eval oi) : Told P vals i oi a' v :=
  h.imp id fun ⟨h1, h2⟩ => ⟨h1, fun w => by rw [he]; exact h2 w⟩

def DetB (P : Program) (md : Region.Mode) (ops : Array Oper) (Q : Exit → Act → World → Prop) (w0 : World) (K : Nat) (vals : List TellM) : Nat → Array Bool → Act → List Ent → Prop
  | 0, listed, a, env => (∀ j ∈ Region.ready md ops listed, K ≤ j) ∧ ∀ w, Env w0 env w → wpAny P md ops Q 0 listed a w
  | n + 1, listed, a, env =>
    ((∀ j ∈ Region.ready md ops listed, j < K → ∃ oj v, ops[j]? = some oj ∧ Told P vals j oj a v ∧ YieldsD P md ops w0 env oj v a ∧ DetB P md ops Q w0 K vals n (listed.setIfInBounds j true) (a.put oj.dst v) env) ∧ ∀ w, Env w0 env w → wpAny P md ops Q (n + 1) listed a w) ∨
    (Region.ready md ops listed ≠ [] ∧ ∀ i ∈ Region.ready md ops listed, i < K ∧ ∃ oi, ops[i]? = some oi ∧
      ((∃ v, Told P vals i oi a v ∧ YieldsD P md ops w0 env oi v a ∧ DetB P md ops Q w0 K vals n (listed.setIfInBounds i true) (a.put oi.dst v) env) ∨
       (∃ R, vals[i]? = some (.rel R) ∧ YieldsR P md ops w0 env oi R a ∧ ∀ v F, (∃ w, Env w0 (⟨i, F, R v F⟩ :: env) w) → DetB P md ops Q w0 K vals n (listed.setIfInBounds i true) (a.put oi.dst v) (⟨i, F, R v F⟩ :: env))))

section
variable {P : Program} {md : Region.Mode} {ops : Array Oper} {Q : Exit → Act → World → Prop} {w0 : World} {K : Nat} {vals : List TellM}

theorem DetB.perm : ∀ (n : Nat) (listed : Array Bool) (a : Act) (env env' : List Ent), env.Perm env' → DetB P md ops Q w0 K vals n listed a env → DetB P md ops Q w0 K vals n listed a env'
  | 0, _, _, _, _, he, h => ⟨h.1, fun w hw => h.2 w (hw.perm he.symm)⟩
  | n + 1, listed, a, env, env', he, h => by
    rcases h with h | ⟨hne, h⟩
    · exact .inl ⟨fun j hj hjK => by
        obtain ⟨oj, v, h1, h2, h3, h4⟩ := h.1 j hj hjK
        exact ⟨oj, v, h1, h2, h3.perm he, DetB.perm n _ _ _ _ he h4⟩, fun w hw => h.2 w (hw.perm he.symm)⟩
    · refine .inr ⟨hne, fun i hi => ?_⟩
      obtain ⟨hK, oi, hoi, ⟨v, hv, hy, h⟩ | ⟨R, hv, hy, h⟩⟩ := h i hi
      · exact ⟨hK, oi, hoi, .inl ⟨v, hv, hy.perm he, DetB.perm n _ _ _ _ he h⟩⟩
      · exact ⟨hK, oi, hoi, .inr ⟨R, hv, hy.perm he, fun v F ⟨w, hw⟩ => DetB.perm n _ _ _ _ (he.cons _) (h v F ⟨w, hw.perm (he.cons _).symm⟩)⟩⟩

theorem DetB.sound : ∀ (n : Nat) (listed : Array Bool) (a : Act) (env : List Ent), DetB P md ops Q w0 K vals n listed a env → ∀ w, Env w0 env w → wpAny P md ops Q n listed a w
  | 0, _, _, _, h, w, hw => h.2 w hw
  | n + 1, listed, a, env, h, w, hw => by
    rcases h with h | ⟨hne, h⟩
    · exact h.2 w hw
    · refine ⟨fun h0 => absurd h0 hne, fun i hi => ?_⟩
      obtain ⟨_, oi, hoi, ⟨v, hv, hy, h⟩ | ⟨R, hv, hy, h⟩⟩ := h i hi
      · exact wpOp_det hoi hy hw fun w' hb => DetB.sound n _ _ _ h w' (hw.step hb)
      · exact wpOp_rel hoi hy hw fun v F w' hw' => DetB.sound n _ _ _ (h v F ⟨w', hw'⟩) w' hw'

/-- 'i' may come up and is free: it may be taken first. -/
theorem DetB.first {i : Nat} {oi : Oper} (hi : ops[i]? = some oi) (hs : Region.noSelect ops = true) (hK : i < K) :
    ∀ (n : Nat) (listed : Array Bool) (a : Act) (env : List Ent), (∃ w, Env w0 env w) → Closed md ops listed → freeK md ops K listed i = true → i ∈ Region.ready md ops listed →
      ((∃ v, Told P vals i oi a v ∧ YieldsD P md ops w0 env oi v a ∧ DetB P md ops Q w0 K vals n (listed.setIfInBounds i true) (a.put oi.dst v) env) ∨
       (∃ R, vals[i]? = some (.rel R) ∧ YieldsR P md ops w0 env oi R a ∧ ∀ v F, (∃ w, Env w0 (⟨i, F, R v F⟩ :: env) w) → DetB P md ops Q w0 K vals n (listed.setIfInBounds i true) (a.put oi.dst v) (⟨i, F, R v F⟩ :: env))) →
      DetB P md ops Q w0 K vals (n + 1) listed a env := by
  intro n
  induction n with
  | zero =>
    intro listed a env hw hcl hf hr H
    refine .inr ⟨List.ne_nil_of_mem hr, fun j hj => ?_⟩
    by_cases hji : j = i
    · subst hji; exact ⟨hK, oi, hi, H⟩
    · exfalso
      obtain ⟨hjun, oj, hoj, hall⟩ := mem_ready.1 hj
      have hno : waitsB md ops 6 j i = false := by
        cases hwt : waitsB md ops 6 j i with
        | false => rfl
        | true =>
          obtain ⟨hiun, _⟩ := mem_ready.1 hr
          have := waitsB_spec hcl 6 j i oj hoj hall hwt
          rw [getD_false_true hiun] at this
          cases this
      have hfree := freeK_spec hi hf hoj hji hjun hno
      have hj' := ready_mono hj hji
      have hleaf : ∀ t ∈ Region.ready md ops (listed.setIfInBounds i true), K ≤ t := by
        rcases H with ⟨v, _, _, h⟩ | ⟨R, _, hy, h⟩
        · exact h.1
        · obtain ⟨w, hw⟩ := hw
          obtain ⟨v, F, w', hw'⟩ := hy.some i hw
          exact (h v F ⟨w', hw'⟩).1
      have := hleaf j hj'
      omega
  | succ n ih =>
    intro listed a env hwx hcl hf hr H
    refine .inr ⟨List.ne_nil_of_mem hr, fun j hj => ?_⟩
    by_cases hji : j = i
    · subst hji; exact ⟨hK, oi, hi, H⟩
    · obtain ⟨hjun, oj, hoj, hall⟩ := mem_ready.1 hj
      obtain ⟨hiun, _⟩ := mem_ready.1 hr
      have hno : waitsB md ops 6 j i = false := by
        cases hwt : waitsB md ops 6 j i with
        | false => rfl
        | true =>
          have := waitsB_spec hcl 6 j i oj hoj hall hwt
          rw [getD_false_true hiun] at this
          cases this
      obtain ⟨hap, hjK⟩ := freeK_spec hi hf hoj hji hjun hno
      have hj' := ready_mono hj hji
      have hi' : i ∈ Region.ready md ops (listed.setIfInBounds j true) := ready_mono hr (Ne.symm hji)
      have hf' := freeK_mono (j := j) hf
      have hcl' := hcl.set hj
      obtain ⟨h1, h2, h3⟩ := Oper.apart_spec hap
      have hsi := noSel hs hi
      have hsj := noSel hs hoj
      refine ⟨hjK, oj, hoj, ?_⟩
      -- what the state behind 'i' says of 'j', whatever 'i' has left
      have look : ∀ (x : Value) (env' : List Ent), env'.filter (depB md oj) = env.filter (depB md oj) → DetB P md ops Q w0 K vals (n + 1) (listed.setIfInBounds i true) (a.put oi.dst x) env' →
          ((∃ u, Told P vals j oj a u ∧ YieldsD P md ops w0 env oj u a ∧ DetB P md ops Q w0 K vals n ((listed.setIfInBounds j true).setIfInBounds i true) ((a.put oj.dst u).put oi.dst x) env') ∨
           (∃ R, vals[j]? = some (.rel R) ∧ YieldsR P md ops w0 env oj R a ∧ ∀ u G, (∃ w, Env w0 (⟨j, G, R u G⟩ :: env') w) → DetB P md ops Q w0 K vals n ((listed.setIfInBounds j true).setIfInBounds i true) ((a.put oj.dst u).put oi.dst x) (⟨j, G, R u G⟩ :: env'))) := by
        intro x env' henv h
        have he := execOp_put oj hsj a oi.dst x h1
        have hw := wanted_put oj a oi.dst x h1
        rcases h with h | ⟨_, h⟩
        · obtain ⟨oj', u, hoj', hu, hy, h⟩ := h.1 j hj' hjK
          obtain rfl : oj' = oj := Option.some.inj (hoj'.symm.trans hoj)
          refine .inl ⟨u, hu.of_same he.symm, hy.of_same he.symm hw.symm henv.symm, ?_⟩
          rw [← listed_comm listed i j hji, ← Act.put_comm a x u h2]; exact h
        · obtain ⟨_, oj', hoj', h⟩ := h j hj'
          obtain rfl : oj' = oj := Option.some.inj (hoj'.symm.trans hoj)
          rcases h with ⟨u, hu, hy, h⟩ | ⟨R, ho, hy, h⟩
          · refine .inl ⟨u, hu.of_same he.symm, hy.of_same he.symm hw.symm henv.symm, ?_⟩
            rw [← listed_comm listed i j hji, ← Act.put_comm a x u h2]; exact h
          · refine .inr ⟨R, ho, hy.of_same he.symm hw.symm henv.symm, fun u G hG => ?_⟩
            rw [← listed_comm listed i j hji, ← Act.put_comm a x _ h2]; exact h u G hG
      have keepE : ∀ u, execOp (a.put oj.dst u).eval oi = execOp a.eval oi := fun u => execOp_put oi hsi a oj.dst u h3
      have keepW : ∀ u, Region.wanted oi (yielded ops (a.put oj.dst u).tmps) = Region.wanted oi (yielded ops a.tmps) := fun u => wanted_put oi a oj.dst u h3
      have keepF : ∀ (G : List Nat) (p : World → Prop), (⟨j, G, p⟩ :: env : List Ent).filter (depB md oi) = env.filter (depB md oi) := fun G p => dep_not hi hr hjun G p env
      have keepG : ∀ (F : List Nat) (p : World → Prop), (⟨i, F, p⟩ :: env : List Ent).filter (depB md oj) = env.filter (depB md oj) := fun F p => dep_not hoj hj hiun F p env
      rcases H with ⟨v, hv, hy, H⟩ | ⟨R, hv, hy, H⟩
      · rcases look v env rfl H with ⟨u, hu, hyj, h⟩ | ⟨Rj, hu, hyj, h⟩
        · exact .inl ⟨u, hu, hyj, ih _ _ _ hwx hcl' hf' hi' (.inl ⟨v, hv.of_same (keepE u), hy.of_same (keepE u) (keepW u) rfl, h⟩)⟩
        · exact .inr ⟨Rj, hu, hyj, fun u G hG => ih _ _ _ hG hcl' hf' hi' (.inl ⟨v, hv.of_same (keepE _), hy.of_same (keepE _) (keepW _) (keepF _ _), h u G hG⟩)⟩
      · obtain ⟨wx, hwx'⟩ := hwx
        obtain ⟨v0, F0, w', hw0⟩ := hy.some i hwx'
        rcases look _ _ (keepG _ _) (H v0 F0 ⟨w', hw0⟩) with ⟨u, hu, hyj, _⟩ | ⟨Rj, hu, hyj, _⟩
        · refine .inl ⟨u, hu, hyj, ih _ _ _ ⟨wx, hwx'⟩ hcl' hf' hi' (.inr ⟨R, hv, hy.of_same (keepE u) (keepW u) rfl, fun v F hF => ?_⟩)⟩
          rcases look _ _ (keepG _ _) (H v F hF) with ⟨u', hu', _, h⟩ | ⟨Rj, hu', _, _⟩
          · obtain rfl : u' = u := hu'.one wx hu
            exact h
          · exact (hu.not hu').elim
        · refine .inr ⟨Rj, hu, hyj, fun u G hG => ih _ _ _ hG hcl' hf' hi' (.inr ⟨R, hv, hy.of_same (keepE _) (keepW _) (keepF _ _), fun v F hF => ?_⟩)⟩
          obtain ⟨w2, hw2⟩ := hF
          rcases look _ _ (keepG _ _) (H v F ⟨w2, hw2.swap.tail⟩) with ⟨u', hu', _, _⟩ | ⟨Rj', hu', _, h⟩
          · exact (hu'.not hu).elim
          · obtain rfl : Rj' = Rj := by rw [hu] at hu'; injection hu' with e; injection e with e; exact e.symm
            exact DetB.perm n _ _ _ _ (List.Perm.swap _ _ _) (h u G ⟨w2, hw2.swap⟩)

/-- Which have come up. -/
def mark (n : Nat) (l : List Nat) : Array Bool := l.foldr (fun i L => L.setIfInBounds i true) (Array.replicate n false)

def okM (ops : Array Oper) (K : Nat) (l : List Nat) (i : Nat) : Bool :=
  closedB .any ops (mark ops.size l) && Region.noSelect ops && decide (i < K) && freeK .any ops K (mark ops.size l) i && (Region.ready .any ops (mark ops.size l)).contains i

/-- The walk in an order of one's own: l have come up, the last one first. -/
def DetM (P : Program) (ops : Array Oper) (Q : Exit → Act → World → Prop) (w0 : World) (K : Nat) (vals : List TellM) (n : Nat) (l : List Nat) (a : Act) (env : List Ent) : Prop :=
  (∃ w, Env w0 env w) → DetB P .any ops Q w0 K vals n (mark ops.size l) a env

theorem detM_begin {id : Nat} {a : Act} {w : World} (vals : List TellM) (K n : Nat) (hn : (n == ops.size) = true) (hm : P.follows .mixedOrders = true)
    (h : DetM P ops Q w.drew K vals n [] a []) : (Code.region id ops true).wp P Q a w := by
  obtain rfl : n = ops.size := by simpa using hn
  have h0 : Env w.drew [] w.drew := ⟨Below.refl _ _, (fun p hp => by cases hp), List.Pairwise.nil⟩
  exact wp_region_any hm (DetB.sound _ _ _ _ (h ⟨_, h0⟩) _ h0)

theorem detM_val (i : Nat) {oi : Oper} {v : Value} {n : Nat} {l : List Nat} {a : Act} {env : List Ent} (hok : okM ops K l i = true) (hi : ops[i]? = some oi) (hv : vals[i]? = some (.val v)) (hy : YieldsD P .any ops w0 env oi v a)
    (h : DetM P ops Q w0 K vals n (i :: l) (a.put oi.dst v) env) : DetM P ops Q w0 K vals (n + 1) l a env := by
  intro hw
  simp only [okM, Bool.and_eq_true] at hok
  obtain ⟨⟨⟨⟨q0, q1⟩, q2⟩, q3⟩, q4⟩ := hok
  exact DetB.first hi q1 (of_decide_eq_true q2) n _ a env hw (closedB_spec q0) q3 (by simpa using q4) (.inl ⟨v, .inl hv, hy, h hw⟩)
theorem detM_pure (i : Nat) {oi : Oper} (v : Value) {n : Nat} {l : List Nat} {a : Act} {env : List Ent} (hok : okM ops K l i = true) (hi : ops[i]? = some oi) (hv : vals[i]? = some .pure) (hg : Region.wanted oi (yielded ops a.tmps) = true) (hy : ∀ w, (execOp a.eval oi).run P w = .ok (.value v) w)
    (h : DetM P ops Q w0 K vals n (i :: l) (a.put oi.dst v) env) : DetM P ops Q w0 K vals (n + 1) l a env := by
  intro hw
  simp only [okM, Bool.and_eq_true] at hok
  obtain ⟨⟨⟨⟨q0, q1⟩, q2⟩, q3⟩, q4⟩ := hok
  exact DetB.first hi q1 (of_decide_eq_true q2) n _ a env hw (closedB_spec q0) q3 (by simpa using q4) (.inl ⟨v, .inr ⟨hv, hy⟩, yields_of hg (fun w _ => by rw [hy]; exact Det1_same), h hw⟩)
theorem detM_rel (i : Nat) {oi : Oper} {R : Value → List Nat → World → Prop} {n : Nat} {l : List Nat} {a : Act} {env : List Ent} (hok : okM ops K l i = true) (hi : ops[i]? = some oi) (hv : vals[i]? = some (.rel R)) (hy : YieldsR P .any ops w0 env oi R a)
    (h : ∀ v F w, Env w0 (⟨i, F, R v F⟩ :: env) w → DetM P ops Q w0 K vals n (i :: l) (a.put oi.dst v) (⟨i, F, R v F⟩ :: env)) : DetM P ops Q w0 K vals (n + 1) l a env := by
  intro hw
  simp only [okM, Bool.and_eq_true] at hok
  obtain ⟨⟨⟨⟨q0, q1⟩, q2⟩, q3⟩, q4⟩ := hok
  exact DetB.first hi q1 (of_decide_eq_true q2) n _ a env hw (closedB_spec q0) q3 (by simpa using q4) (.inr ⟨R, hv, hy, fun v F hF => h v F _ hF.choose_spec hF⟩)

theorem wpOps_picked : ∀ (r : List Nat) (os : List Oper), r.map (ops[·]?) = os.map some → wpOps P ops Q r = wpList P ops Q os
  | [], [], _ => by funext a w; simp [wpOps, wpList]
  | [], _ :: _, h => by simp at h
  | _ :: _, [], h => by simp at h
  | i :: r, o :: os, h => by
    simp only [List.map_cons, List.cons.injEq] at h
    funext a w
    simp only [wpOps, h.1, wpList, wpOps_picked r os h.2]
/-- The last few come up in one order, which need not be that of their numbers. -/
def okRest (ops : Array Oper) (K : Nat) (l r : List Nat) (n : Nat) : Bool :=
  (Region.ready .any ops (mark ops.size l)).all (fun j => decide (K ≤ j)) && chainFrom .any ops r (mark ops.size l) && decide (r.length ≤ n)
theorem detM_tail (r : List Nat) (os : List Oper) {n : Nat} {l : List Nat} {a : Act} {env : List Ent} (hok : okRest ops K l r n = true) (hos : r.map (ops[·]?) = os.map some) (h : ∀ w, Env w0 env w → wpList P ops Q os a w) : DetM P ops Q w0 K vals n l a env := by
  intro _
  simp only [okRest, Bool.and_eq_true] at hok
  obtain ⟨⟨q1, q2⟩, q3⟩ := hok
  have h' : ∀ w, Env w0 env w → wpAny P .any ops Q n (mark ops.size l) a w := fun w hw => wpAny_chain r n _ a w q2 (by simpa using q3) (by rw [wpOps_picked r os hos]; exact h w hw)
  have hK : ∀ j ∈ Region.ready .any ops (mark ops.size l), K ≤ j := fun j hj => by simpa using List.all_eq_true.1 q1 j hj
  cases n with
  | zero => exact ⟨hK, h'⟩
  | succ n => exact .inl ⟨fun j hj hjK => absurd (hK j hj) (by omega), h'⟩
end
end Go.Proofs.YtmhkmliebhbkdaaGreat

/- A region whose order Go leaves open, all of whose operations but the last few yield one value each whatever order is drawn: what such a region comes to, walked in the text's order alone. No program stands in it. -/
namespace Go.Proofs.YtmhkmliebhbkdaaGreat.D2
open Go.RowKit

/-- What an operation has left behind: which operation, the blocks that it has made, what holds of the world since. -/
structure Ent where
  tag : Nat
  blocks : List Nat
  holds : World → Prop

/-- What is said of a world goes on to hold while nothing that was there turns. -/
def Lasting (p : World → Prop) : Prop := ∀ w w', Below w.heap.size w w' → p w → p w'

/-- The world at hand: below the heap that stood when the region began all is as it was; what the region's operations have left behind holds, and lies apart. -/
structure Env (w0 : World) (env : List Ent) (w : World) : Prop where
  below : Below w0.heap.size w0 w
  ents : ∀ e ∈ env, e.holds w ∧ Lasting e.holds ∧ ∀ b ∈ e.blocks, w0.heap.size ≤ b ∧ b < w.heap.size
  apart : env.Pairwise fun e f => ∀ b ∈ e.blocks, b ∉ f.blocks

/-- What one operation comes to: this value, and nothing that was there has turned. -/
def Det1 (P : Program) (v : Value) (w : World) : Result Next → Prop
  | .ok (.value u) w' => u = v ∧ Below w.heap.size w w'
  | .ok .skip w' => undef = v ∧ Below w.heap.size w w'
  | .ok (.enter f args) w' => Calls P f args w' fun e w'' => e = .returned v ∧ Below w.heap.size w w''
  | _ => False

/-- Some value, of which R holds, with the blocks F that it has made. -/
def Rel1 (P : Program) (R : Value → List Nat → World → Prop) (w : World) : Result Next → Prop
  | .ok (.value u) w' => ∃ F, R u F w' ∧ (∀ b ∈ F, w.heap.size ≤ b ∧ b < w'.heap.size) ∧ Below w.heap.size w w'
  | .ok (.enter f args) w' => Calls P f args w' fun e w'' => ∃ u F, e = .returned u ∧ R u F w'' ∧ (∀ b ∈ F, w.heap.size ≤ b ∧ b < w''.heap.size) ∧ Below w.heap.size w w''
  | _ => False

def depB (md : Region.Mode) (o : Oper) (e : Ent) : Bool := o.after.any fun x => Region.binds md x && x.on == e.tag

def YieldsD (P : Program) (md : Region.Mode) (ops : Array Oper) (w0 : World) (env : List Ent) (o : Oper) (v : Value) (a : Act) : Prop :=
  (Region.wanted o (yielded ops a.tmps) = true ∧ ∀ w, Env w0 (env.filter (depB md o)) w → Det1 P v w ((execOp a.eval o).run P w)) ∨
  (Region.wanted o (yielded ops a.tmps) = false ∧ v = undef)

def YieldsR (P : Program) (md : Region.Mode) (ops : Array Oper) (w0 : World) (env : List Ent) (o : Oper) (R : Value → List Nat → World → Prop) (a : Act) : Prop :=
  Region.wanted o (yielded ops a.tmps) = true ∧ (∀ u F, Lasting (R u F)) ∧ ∀ w, Env w0 (env.filter (depB md o)) w → Rel1 P R w ((execOp a.eval o).run P w)

/-- What an operation is to come to: a value, or some value of which this holds. -/
inductive Tell where
  | val (v : Value)
  | rel (R : Value → List Nat → World → Prop)

def DetA (P : Program) (md : Region.Mode) (ops : Array Oper) (Q : Exit → Act → World → Prop) (w0 : World) (K : Nat) (vals : List Tell) : Nat → Array Bool → Act → List Ent → Prop
  | 0, listed, a, env => (∀ j ∈ Region.ready md ops listed, K ≤ j) ∧ ∀ w, Env w0 env w → wpAny P md ops Q 0 listed a w
  | n + 1, listed, a, env =>
    ((∀ j ∈ Region.ready md ops listed, K ≤ j) ∧ ∀ w, Env w0 env w → wpAny P md ops Q (n + 1) listed a w) ∨
    (Region.ready md ops listed ≠ [] ∧ ∀ i ∈ Region.ready md ops listed, i < K ∧ ∃ oi, ops[i]? = some oi ∧
      ((∃ v, vals[i]? = some (.val v) ∧ YieldsD P md ops w0 env oi v a ∧ DetA P md ops Q w0 K vals n (listed.setIfInBounds i true) (a.put oi.dst v) env) ∨
       (∃ R, vals[i]? = some (.rel R) ∧ YieldsR P md ops w0 env oi R a ∧ ∀ v F, (∃ w, Env w0 (⟨i, F, R v F⟩ :: env) w) → DetA P md ops Q w0 K vals n (listed.setIfInBounds i true) (a.put oi.dst v) (⟨i, F, R v F⟩ :: env))))

section
variable {P : Program} {md : Region.Mode} {ops : Array Oper} {Q : Exit → Act → World → Prop} {w0 : World} {K : Nat} {vals : List Tell}

theorem Env.sub {env env' : List Ent} (h : env'.Sublist env) {w : World} (k : Env w0 env w) : Env w0 env' w :=
  ⟨k.below, fun e he => k.ents e (h.subset he), k.apart.sublist h⟩
theorem Env.tail {e : Ent} {env : List Ent} {w : World} (k : Env w0 (e :: env) w) : Env w0 env w := k.sub (List.sublist_cons_self _ _)
theorem Env.swap {e f : Ent} {env : List Ent} {w : World} (k : Env w0 (e :: f :: env) w) : Env w0 (f :: e :: env) w := by
  refine ⟨k.below, fun g hg => k.ents g ?_, ?_⟩
  · rcases List.mem_cons.1 hg with rfl | hg
    · exact List.mem_cons_of_mem _ List.mem_cons_self
    · rcases List.mem_cons.1 hg with rfl | hg
      · exact List.mem_cons_self
      · exact List.mem_cons_of_mem _ (List.mem_cons_of_mem _ hg)
  · have h := k.apart
    rw [List.pairwise_cons, List.pairwise_cons] at h
    rw [List.pairwise_cons, List.pairwise_cons]
    refine ⟨fun g hg => ?_, fun g hg => h.1 g (List.mem_cons_of_mem _ hg), h.2.2⟩
    rcases List.mem_cons.1 hg with rfl | hg
    · exact fun b hb hb' => h.1 f List.mem_cons_self b hb' hb
    · exact h.2.1 g hg

theorem Env.step {env : List Ent} {w w' : World} (k : Env w0 env w) (hb : Below w.heap.size w w') : Env w0 env w' :=
  ⟨k.below.trans (hb.mono k.below.size), fun e he => by
    obtain ⟨h1, h2, h3⟩ := k.ents e he
    exact ⟨h2 _ _ hb h1, h2, fun b hb' => ⟨(h3 b hb').1, Nat.lt_of_lt_of_le (h3 b hb').2 hb.size⟩⟩, k.apart⟩

theorem Env.push {env : List Ent} {w w' : World} {i : Nat} {F : List Nat} {p : World → Prop} (k : Env w0 env w) (hb : Below w.heap.size w w') (hp : p w') (hl : Lasting p) (hF : ∀ b ∈ F, w.heap.size ≤ b ∧ b < w'.heap.size) : Env w0 (⟨i, F, p⟩ :: env) w' := by
  have k' := k.step hb
  refine ⟨k'.below, fun e he => ?_, ?_⟩
  · rcases List.mem_cons.1 he with rfl | he
    · exact ⟨hp, hl, fun b hb' => ⟨Nat.le_trans k.below.size (hF b hb').1, (hF b hb').2⟩⟩
    · exact k'.ents e he
  · rw [List.pairwise_cons]
    refine ⟨fun e he b hbF hbe => ?_, k.apart⟩
    have h1 := (hF b hbF).1
    have h2 := ((k.ents e he).2.2 b hbe).2
    omega

theorem wpOp_det {i : Nat} {oi : Oper} {v : Value} {a : Act} {env : List Ent} {w : World} {Kt : Act → World → Prop} (hi : ops[i]? = some oi) (hy : YieldsD P md ops w0 env oi v a) (hw : Env w0 env w)
    (hK : ∀ w', Below w.heap.size w w' → Kt (a.put oi.dst v) w') : wpOp P ops Q i Kt a w := by
  unfold wpOp
  simp only [hi]
  rcases hy with ⟨hwn, h⟩ | ⟨hwn, rfl⟩
  · simp only [hwn, if_true]
    refine .inl ?_
    have h := h w (hw.sub List.filter_sublist)
    unfold Oper.wp
    generalize (execOp a.eval oi).run P w = r at h
    cases r with
    | ok n w' =>
      cases n <;> simp only [Det1] at h
      case value u => obtain ⟨rfl, hb⟩ := h; exact hK _ hb
      case skip => obtain ⟨rfl, hb⟩ := h; exact hK _ hb
      case enter f args =>
        rw [Oper.upon_enter]
        refine Calls.mono h fun e w'' he => ?_
        obtain ⟨rfl, hb⟩ := he
        exact hK _ hb
    | halt x w' => simp only [Det1] at h
  · simp only [hwn, Bool.false_eq_true, if_false]
    exact hK w (Below.refl _ _)

theorem wpOp_rel {i : Nat} {oi : Oper} {R : Value → List Nat → World → Prop} {a : Act} {env : List Ent} {w : World} {Kt : Act → World → Prop} (hi : ops[i]? = some oi) (hy : YieldsR P md ops w0 env oi R a) (hw : Env w0 env w)
    (hK : ∀ v F w', Env w0 (⟨i, F, R v F⟩ :: env) w' → Kt (a.put oi.dst v) w') : wpOp P ops Q i Kt a w := by
  unfold wpOp
  obtain ⟨hwn, hl, h⟩ := hy
  simp only [hi, hwn, if_true]
  refine .inl ?_
  have h := h w (hw.sub List.filter_sublist)
  unfold Oper.wp
  generalize (execOp a.eval oi).run P w = r at h
  cases r with
  | ok n w' =>
    cases n <;> simp only [Rel1] at h
    case value u => obtain ⟨F, hR, hF, hb⟩ := h; exact hK _ F _ (hw.push hb hR (hl u F) hF)
    case enter f args =>
      rw [Oper.upon_enter]
      refine Calls.mono h fun e w'' he => ?_
      obtain ⟨u, F, rfl, hR, hF, hb⟩ := he
      exact hK _ F _ (hw.push hb hR (hl u F) hF)
  | halt x w' => simp only [Rel1] at h

theorem Calls.some {f : FuncId} {args : Array Value} {w : World} {R : Ending → World → Prop} (h : Calls P f args w R) : ∃ e w', R e w' := by
  obtain ⟨e, w', _, hR, _⟩ := h []
  exact ⟨e, w', hR⟩

/-- There is such a value. -/
theorem YieldsR.some {oi : Oper} {R : Value → List Nat → World → Prop} {a : Act} {env : List Ent} {w : World} (i : Nat) (hy : YieldsR P md ops w0 env oi R a) (hw : Env w0 env w) : ∃ v F w', Env w0 (⟨i, F, R v F⟩ :: env) w' := by
  obtain ⟨_, hl, h⟩ := hy
  have h := h w (hw.sub List.filter_sublist)
  generalize (execOp a.eval oi).run P w = r at h
  cases r with
  | ok n w' =>
    cases n <;> simp only [Rel1] at h
    case value u => obtain ⟨F, hR, hF, hb⟩ := h; exact ⟨_, F, _, hw.push hb hR (hl u F) hF⟩
    case enter f args =>
      obtain ⟨e, w'', u, F, rfl, hR, hF, hb⟩ := Calls.some h
      exact ⟨_, F, _, hw.push hb hR (hl u F) hF⟩
  | halt x w' => simp only [Rel1] at h

theorem Env.perm {env env' : List Ent} (h : env.Perm env') {w : World} (k : Env w0 env w) : Env w0 env' w :=
  ⟨k.below, fun e he => k.ents e (h.mem_iff.2 he), (h.pairwise_iff (fun hef b hb hb' => hef b hb' hb)).1 k.apart⟩

theorem YieldsD.perm {o : Oper} {v : Value} {a : Act} {env env' : List Ent} (h : env.Perm env') (hy : YieldsD P md ops w0 env o v a) : YieldsD P md ops w0 env' o v a :=
  hy.imp (fun ⟨h1, h2⟩ => ⟨h1, fun w hw => h2 w (hw.perm (h.symm.filter _))⟩) id
theorem YieldsR.perm {o : Oper} {R : Value → List Nat → World → Prop} {a : Act} {env env' : List Ent} (h : env.Perm env') (hy : YieldsR P md ops w0 env o R a) : YieldsR P md ops w0 env' o R a :=
  ⟨hy.1, hy.2.1, fun w hw => hy.2.2 w (hw.perm (h.symm.filter _))⟩

theorem DetA.perm : ∀ (n : Nat) (listed : Array Bool) (a : Act) (env env' : List Ent), env.Perm env' → DetA P md ops Q w0 K vals n listed a env → DetA P md ops Q w0 K vals n listed a env'
  | 0, _, _, _, _, he, h => ⟨h.1, fun w hw => h.2 w (hw.perm he.symm)⟩
  | n + 1, listed, a, env, env', he, h => by
    rcases h with h | ⟨hne, h⟩
    · exact .inl ⟨h.1, fun w hw => h.2 w (hw.perm he.symm)⟩
    · refine .inr ⟨hne, fun i hi => ?_⟩
      obtain ⟨hK, oi, hoi, ⟨v, hv, hy, h⟩ | ⟨R, hv, hy, h⟩⟩ := h i hi
      · exact ⟨hK, oi, hoi, .inl ⟨v, hv, hy.perm he, DetA.perm n _ _ _ _ he h⟩⟩
      · exact ⟨hK, oi, hoi, .inr ⟨R, hv, hy.perm he, fun v F ⟨w, hw⟩ => DetA.perm n _ _ _ _ (he.cons _) (h v F ⟨w, hw.perm (he.cons _).symm⟩)⟩⟩

theorem DetA.sound : ∀ (n : Nat) (listed : Array Bool) (a : Act) (env : List Ent), DetA P md ops Q w0 K vals n listed a env → ∀ w, Env w0 env w → wpAny P md ops Q n listed a w
  | 0, _, _, _, h, w, hw => h.2 w hw
  | n + 1, listed, a, env, h, w, hw => by
    rcases h with h | ⟨hne, h⟩
    · exact h.2 w hw
    · refine ⟨fun h0 => absurd h0 hne, fun i hi => ?_⟩
      obtain ⟨_, oi, hoi, ⟨v, hv, hy, h⟩ | ⟨R, hv, hy, h⟩⟩ := h i hi
      · exact wpOp_det hoi hy hw fun w' hb => DetA.sound n _ _ _ h w' (hw.step hb)
      · exact wpOp_rel hoi hy hw fun v F w' hw' => DetA.sound n _ _ _ (h v F ⟨w', hw'⟩) w' hw'

/-- Number j waits for number i, at once or by others between. -/
def waitsB (md : Region.Mode) (ops : Array Oper) : Nat → Nat → Nat → Bool
  | 0, _, _ => false
  | f + 1, j, i => match ops[j]? with
    | some o => (o.after.any fun e => Region.binds md e && e.on == i) || o.after.any fun e => Region.binds md e && waitsB md ops f e.on i
    | none => false

/-- What has come up has behind it all that it waits for. -/
def Closed (md : Region.Mode) (ops : Array Oper) (listed : Array Bool) : Prop :=
  ∀ k ok, ops[k]? = some ok → listed.getD k false = true → ∀ e ∈ ok.after, Region.binds md e = true → listed.getD e.on false = true

theorem waitsB_spec {listed : Array Bool} (hc : Closed md ops listed) : ∀ (f j i : Nat) (oj : Oper), ops[j]? = some oj → (∀ e ∈ oj.after, Region.binds md e = true → listed.getD e.on false = true) → waitsB md ops f j i = true → listed.getD i false = true
  | 0, _, _, _, _, _, h => by simp [waitsB] at h
  | f + 1, j, i, oj, hj, hall, h => by
    simp only [waitsB, hj] at h
    rw [Bool.or_eq_true] at h
    rcases h with h | h
    · obtain ⟨e, he, hb⟩ := Array.any_eq_true'.1 h
      simp only [Bool.and_eq_true, beq_iff_eq] at hb
      rw [← hb.2]; exact hall e he hb.1
    · obtain ⟨e, he, hb⟩ := Array.any_eq_true'.1 h
      simp only [Bool.and_eq_true] at hb
      have hl := hall e he hb.1
      cases hk : ops[e.on]? with
      | none => cases f <;> simp [waitsB, hk] at hb
      | some ok => exact waitsB_spec hc f e.on i ok hk (hc e.on ok hk hl) hb.2

/-- May number i be taken first? All that has not come up yet waits for it, or is apart from it and none of the last. -/
def freeK (md : Region.Mode) (ops : Array Oper) (K : Nat) (listed : Array Bool) (i : Nat) : Bool :=
  match ops[i]? with
  | none => false
  | some oi => (List.range ops.size).all fun j => j == i || listed.getD j true || match ops[j]? with
      | some oj => (decide (j < K) && oi.apart ops oj) || waitsB md ops 12 j i
      | none => true

theorem freeK_spec {i : Nat} {oi : Oper} {listed : Array Bool} (hi : ops[i]? = some oi) (h : freeK md ops K listed i = true) {j : Nat} {oj : Oper}
    (hj : ops[j]? = some oj) (hne : j ≠ i) (hun : listed.getD j true = false) (hno : waitsB md ops 12 j i = false) :
    oi.apart ops oj = true ∧ j < K := by
  simp only [freeK, hi, List.all_eq_true, List.mem_range] at h
  have hlt : j < ops.size := (Array.getElem?_eq_some_iff.1 hj).1
  have h1 := h j hlt
  simp only [hj, hun, hno, Bool.or_false, Bool.or_eq_true, beq_iff_eq, Bool.and_eq_true, decide_eq_true_eq] at h1
  rcases h1 with h1 | h1
  · exact absurd h1 hne
  · exact ⟨h1.2, h1.1⟩

theorem freeK_mono {i j : Nat} {listed : Array Bool} (h : freeK md ops K listed i = true) : freeK md ops K (listed.setIfInBounds j true) i = true := by
  unfold freeK at *
  cases hi : ops[i]? with
  | none => rw [hi] at h; exact h
  | some oi =>
    rw [hi] at h
    simp only [List.all_eq_true, List.mem_range] at h ⊢
    intro t ht
    have h1 := h t ht
    by_cases htj : t = j
    · subst htj
      have : (listed.setIfInBounds t true).getD t true = true := by
        rw [Array.getD_eq_getD_getElem?, Array.getElem?_setIfInBounds]
        split
        · split <;> rfl
        · rename_i hh; exact absurd rfl hh
      simp [this]
    · rw [getD_set_ne true (Ne.symm htj)]; exact h1

theorem noSel {ops : Array Oper} (hs : Region.noSelect ops = true) {j : Nat} {o : Oper} (h : ops[j]? = some o) : ∀ cs b, o.op ≠ .select cs b := fun cs b => Region.noSelect_spec hs j o cs b h

theorem getD_false_true {listed : Array Bool} {i : Nat} (h : listed.getD i true = false) : listed.getD i false = false := by
  rcases Nat.lt_or_ge i listed.size with h' | h'
  · simp [h'] at h ⊢; exact h
  · simp [Array.getElem?_eq_none h'] at h

theorem listed_comm (listed : Array Bool) (i j : Nat) (h : j ≠ i) : (listed.setIfInBounds i true).setIfInBounds j true = (listed.setIfInBounds j true).setIfInBounds i true :=
  Array.setIfInBounds_comm _ _ (Ne.symm h)

theorem YieldsD.of_same {o : Oper} {v : Value} {a a' : Act} {env env' : List Ent} (hy : YieldsD P md ops w0 env o v a) (he : execOp a'.eval o = execOp a.eval o)
    (hw : Region.wanted o (yielded ops a'.tmps) = Region.wanted o (yielded ops a.tmps)) (hf : env'.filter (depB md o) = env.filter (depB md o)) : YieldsD P md ops w0 env' o v a' := by
  unfold YieldsD at *; rw [he, hw, hf]; exact hy
theorem YieldsR.of_same {o : Oper} {R : Value → List Nat → World → Prop} {a a' : Act} {env env' : List Ent} (hy : YieldsR P md ops w0 env o R a) (he : execOp a'.eval o = execOp a.eval o)
    (hw : Region.wanted o (yielded ops a'.tmps) = Region.wanted o (yielded ops a.tmps)) (hf : env'.filter (depB md o) = env.filter (depB md o)) : YieldsR P md ops w0 env' o R a' := by
  unfold YieldsR at *; rw [he, hw, hf]; exact hy

/-- What an operation that may come up looks for is of none that has not come up. -/
theorem dep_not {i j : Nat} {oj : Oper} {listed : Array Bool} (hj : ops[j]? = some oj) (hr : j ∈ Region.ready md ops listed) (hi : listed.getD i true = false) (F : List Nat) (p : World → Prop) (env : List Ent) :
    (⟨i, F, p⟩ :: env : List Ent).filter (depB md oj) = env.filter (depB md oj) := by
  obtain ⟨_, oj', hoj', hall⟩ := mem_ready.1 hr
  obtain rfl : oj' = oj := Option.some.inj (hoj'.symm.trans hj)
  have : depB md oj' ⟨i, F, p⟩ = false := by
    cases h : depB md oj' ⟨i, F, p⟩ with
    | false => rfl
    | true =>
      obtain ⟨x, hx, hb⟩ := Array.any_eq_true'.1 h
      simp only [Bool.and_eq_true, beq_iff_eq] at hb
      have h1 := hall x hx hb.1
      rw [hb.2, getD_false_true hi] at h1
      cases h1
  rw [List.filter_cons, this]
  rfl

theorem Closed.set {i : Nat} {listed : Array Bool} (h : Closed md ops listed) (hi : i ∈ Region.ready md ops listed) : Closed md ops (listed.setIfInBounds i true) := by
  obtain ⟨_, oi, hoi, hall⟩ := mem_ready.1 hi
  intro j oj hj hl e he hb
  by_cases hij : i = j
  · subst hij
    obtain rfl : oj = oi := Option.some.inj (hj.symm.trans hoi)
    exact getD_set_true (hall e he hb)
  · rw [getD_set_ne false hij] at hl
    exact getD_set_true (h j oj hj hl e he hb)

/-- 'i' may come up and is free: it may be taken first. -/
theorem DetA.first {i : Nat} {oi : Oper} (hi : ops[i]? = some oi) (hs : Region.noSelect ops = true) (hK : i < K) :
    ∀ (n : Nat) (listed : Array Bool) (a : Act) (env : List Ent), (∃ w, Env w0 env w) → Closed md ops listed → freeK md ops K listed i = true → i ∈ Region.ready md ops listed →
      ((∃ v, vals[i]? = some (.val v) ∧ YieldsD P md ops w0 env oi v a ∧ DetA P md ops Q w0 K vals n (listed.setIfInBounds i true) (a.put oi.dst v) env) ∨
       (∃ R, vals[i]? = some (.rel R) ∧ YieldsR P md ops w0 env oi R a ∧ ∀ v F, (∃ w, Env w0 (⟨i, F, R v F⟩ :: env) w) → DetA P md ops Q w0 K vals n (listed.setIfInBounds i true) (a.put oi.dst v) (⟨i, F, R v F⟩ :: env))) →
      DetA P md ops Q w0 K vals (n + 1) listed a env := by
  intro n
  induction n with
  | zero =>
    intro listed a env hw hcl hf hr H
    refine .inr ⟨List.ne_nil_of_mem hr, fun j hj => ?_⟩
    by_cases hji : j = i
    · subst hji; exact ⟨hK, oi, hi, H⟩
    · exfalso
      obtain ⟨hjun, oj, hoj, hall⟩ := mem_ready.1 hj
      have hno : waitsB md ops 12 j i = false := by
        cases hwt : waitsB md ops 12 j i with
        | false => rfl
        | true =>
          obtain ⟨hiun, _⟩ := mem_ready.1 hr
          have := waitsB_spec hcl 12 j i oj hoj hall hwt
          rw [getD_false_true hiun] at this
          cases this
      have hfree := freeK_spec hi hf hoj hji hjun hno
      have hj' := ready_mono hj hji
      have hleaf : ∀ t ∈ Region.ready md ops (listed.setIfInBounds i true), K ≤ t := by
        rcases H with ⟨v, _, _, h⟩ | ⟨R, _, hy, h⟩
        · exact h.1
        · obtain ⟨w, hw⟩ := hw
          obtain ⟨v, F, w', hw'⟩ := hy.some i hw
          exact (h v F ⟨w', hw'⟩).1
      have := hleaf j hj'
      omega
  | succ n ih =>
    intro listed a env hwx hcl hf hr H
    refine .inr ⟨List.ne_nil_of_mem hr, fun j hj => ?_⟩
    by_cases hji : j = i
    · subst hji; exact ⟨hK, oi, hi, H⟩
    · obtain ⟨hjun, oj, hoj, hall⟩ := mem_ready.1 hj
      obtain ⟨hiun, _⟩ := mem_ready.1 hr
      have hno : waitsB md ops 12 j i = false := by
        cases hwt : waitsB md ops 12 j i with
        | false => rfl
        | true =>
          have := waitsB_spec hcl 12 j i oj hoj hall hwt
          rw [getD_false_true hiun] at this
          cases this
      obtain ⟨hap, hjK⟩ := freeK_spec hi hf hoj hji hjun hno
      have hj' := ready_mono hj hji
      have hi' : i ∈ Region.ready md ops (listed.setIfInBounds j true) := ready_mono hr (Ne.symm hji)
      have hf' := freeK_mono (j := j) hf
      have hcl' := hcl.set hj
      obtain ⟨h1, h2, h3⟩ := Oper.apart_spec hap
      have hsi := noSel hs hi
      have hsj := noSel hs hoj
      refine ⟨hjK, oj, hoj, ?_⟩
      -- what the state behind 'i' says of 'j', whatever 'i' has left
      have look : ∀ (x : Value) (env' : List Ent), env'.filter (depB md oj) = env.filter (depB md oj) → DetA P md ops Q w0 K vals (n + 1) (listed.setIfInBounds i true) (a.put oi.dst x) env' →
          ((∃ u, vals[j]? = some (.val u) ∧ YieldsD P md ops w0 env oj u a ∧ DetA P md ops Q w0 K vals n ((listed.setIfInBounds j true).setIfInBounds i true) ((a.put oj.dst u).put oi.dst x) env') ∨
           (∃ R, vals[j]? = some (.rel R) ∧ YieldsR P md ops w0 env oj R a ∧ ∀ u G, (∃ w, Env w0 (⟨j, G, R u G⟩ :: env') w) → DetA P md ops Q w0 K vals n ((listed.setIfInBounds j true).setIfInBounds i true) ((a.put oj.dst u).put oi.dst x) (⟨j, G, R u G⟩ :: env'))) := by
        intro x env' henv h
        rcases h with h | ⟨_, h⟩
        · have := h.1 j hj'; omega
        · obtain ⟨_, oj', hoj', h⟩ := h j hj'
          obtain rfl : oj' = oj := Option.some.inj (hoj'.symm.trans hoj)
          have he := execOp_put oj' hsj a oi.dst x h1
          have hw := wanted_put oj' a oi.dst x h1
          rcases h with ⟨u, hu, hy, h⟩ | ⟨R, ho, hy, h⟩
          · refine .inl ⟨u, hu, hy.of_same he.symm hw.symm henv.symm, ?_⟩
            rw [← listed_comm listed i j hji, ← Act.put_comm a x u h2]; exact h
          · refine .inr ⟨R, ho, hy.of_same he.symm hw.symm henv.symm, fun u G hG => ?_⟩
            rw [← listed_comm listed i j hji, ← Act.put_comm a x _ h2]; exact h u G hG
      have keepE : ∀ u, execOp (a.put oj.dst u).eval oi = execOp a.eval oi := fun u => execOp_put oi hsi a oj.dst u h3
      have keepW : ∀ u, Region.wanted oi (yielded ops (a.put oj.dst u).tmps) = Region.wanted oi (yielded ops a.tmps) := fun u => wanted_put oi a oj.dst u h3
      have keepF : ∀ (G : List Nat) (p : World → Prop), (⟨j, G, p⟩ :: env : List Ent).filter (depB md oi) = env.filter (depB md oi) := fun G p => dep_not hi hr hjun G p env
      have keepG : ∀ (F : List Nat) (p : World → Prop), (⟨i, F, p⟩ :: env : List Ent).filter (depB md oj) = env.filter (depB md oj) := fun F p => dep_not hoj hj hiun F p env
      rcases H with ⟨v, hv, hy, H⟩ | ⟨R, hv, hy, H⟩
      · rcases look v env rfl H with ⟨u, hu, hyj, h⟩ | ⟨Rj, hu, hyj, h⟩
        · exact .inl ⟨u, hu, hyj, ih _ _ _ hwx hcl' hf' hi' (.inl ⟨v, hv, hy.of_same (keepE u) (keepW u) rfl, h⟩)⟩
        · exact .inr ⟨Rj, hu, hyj, fun u G hG => ih _ _ _ hG hcl' hf' hi' (.inl ⟨v, hv, hy.of_same (keepE _) (keepW _) (keepF _ _), h u G hG⟩)⟩
      · obtain ⟨wx, hwx'⟩ := hwx
        obtain ⟨v0, F0, w', hw0⟩ := hy.some i hwx'
        rcases look _ _ (keepG _ _) (H v0 F0 ⟨w', hw0⟩) with ⟨u, hu, hyj, _⟩ | ⟨Rj, hu, hyj, _⟩
        · refine .inl ⟨u, hu, hyj, ih _ _ _ ⟨wx, hwx'⟩ hcl' hf' hi' (.inr ⟨R, hv, hy.of_same (keepE u) (keepW u) rfl, fun v F hF => ?_⟩)⟩
          rcases look _ _ (keepG _ _) (H v F hF) with ⟨u', hu', _, h⟩ | ⟨Rj, hu', _, _⟩
          · obtain rfl : u' = u := by rw [hu] at hu'; injection hu' with e; injection e with e; exact e.symm
            exact h
          · rw [hu] at hu'; injection hu' with e; cases e
        · refine .inr ⟨Rj, hu, hyj, fun u G hG => ih _ _ _ hG hcl' hf' hi' (.inr ⟨R, hv, hy.of_same (keepE _) (keepW _) (keepF _ _), fun v F hF => ?_⟩)⟩
          obtain ⟨w2, hw2⟩ := hF
          rcases look _ _ (keepG _ _) (H v F ⟨w2, hw2.swap.tail⟩) with ⟨u', hu', _, _⟩ | ⟨Rj', hu', _, h⟩
          · rw [hu] at hu'; injection hu' with e; cases e
          · obtain rfl : Rj' = Rj := by rw [hu] at hu'; injection hu' with e; injection e with e; exact e.symm
            exact DetA.perm n _ _ _ _ (List.Perm.swap _ _ _) (h u G ⟨w2, hw2.swap⟩)

/-- Begin. -/
theorem region_det {id : Nat} {a : Act} {w : World} (vals : List Tell) (K : Nat) (hm : P.follows .mixedOrders = true)
    (h : DetA P .any ops Q w.drew K vals ops.size (Array.replicate ops.size false) a []) : (Code.region id ops true).wp P Q a w :=
  wp_region_any hm (DetA.sound _ _ _ _ h _ ⟨Below.refl _ _, (fun p hp => by cases hp), List.Pairwise.nil⟩)

/-- Number i yields its value. -/
theorem det_val {i : Nat} {oi : Oper} {v : Value} {n : Nat} {listed : Array Bool} {a : Act} {env : List Ent} (hw : ∃ w, Env w0 env w) (hi : ops[i]? = some oi) (hv : vals[i]? = some (.val v)) (hs : Region.noSelect ops = true) (hK : decide (i < K) = true)
    (hcl : Closed md ops listed) (hf : freeK md ops K listed i = true) (hr : (Region.ready md ops listed).contains i = true) (hy : YieldsD P md ops w0 env oi v a)
    (h : DetA P md ops Q w0 K vals n (listed.setIfInBounds i true) (a.put oi.dst v) env) : DetA P md ops Q w0 K vals (n + 1) listed a env :=
  DetA.first hi hs (of_decide_eq_true hK) n listed a env hw hcl hf (by simpa using hr) (.inl ⟨v, hv, hy, h⟩)

/-- Number i yields some value. -/
theorem det_rel {i : Nat} {oi : Oper} {R : Value → List Nat → World → Prop} {n : Nat} {listed : Array Bool} {a : Act} {env : List Ent} (hw : ∃ w, Env w0 env w) (hi : ops[i]? = some oi) (hv : vals[i]? = some (.rel R)) (hs : Region.noSelect ops = true) (hK : decide (i < K) = true)
    (hcl : Closed md ops listed) (hf : freeK md ops K listed i = true) (hr : (Region.ready md ops listed).contains i = true) (hy : YieldsR P md ops w0 env oi R a)
    (h : ∀ v F, (∃ w, Env w0 (⟨i, F, R v F⟩ :: env) w) → DetA P md ops Q w0 K vals n (listed.setIfInBounds i true) (a.put oi.dst v) (⟨i, F, R v F⟩ :: env)) : DetA P md ops Q w0 K vals (n + 1) listed a env :=
  DetA.first hi hs (of_decide_eq_true hK) n listed a env hw hcl hf (by simpa using hr) (.inr ⟨R, hv, hy, h⟩)

/-- All have come up. -/
theorem det_done {n : Nat} {listed : Array Bool} {a : Act} {env : List Ent} (hr : Region.ready md ops listed = []) (h : ∀ w, Env w0 env w → Q .normal a w) : DetA P md ops Q w0 K vals n listed a env := by
  cases n with
  | zero => exact ⟨(by rw [hr]; intro j hj; cases hj), fun w hw => ⟨hr, h w hw⟩⟩
  | succ n => exact .inl ⟨(by rw [hr]; intro j hj; cases hj), fun w hw => ⟨fun _ => h w hw, (by rw [hr]; intro j hj; cases hj)⟩⟩

/-- What is left comes up in one order, one behind the other: as a list. -/
def chainFrom (md : Region.Mode) (ops : Array Oper) : List Nat → Array Bool → Bool
  | [], listed => Region.ready md ops listed == []
  | i :: r, listed => Region.ready md ops listed == [i] && chainFrom md ops r (listed.setIfInBounds i true)

theorem wpAny_chain : ∀ (r : List Nat) (n : Nat) (listed : Array Bool) (a : Act) (w : World), chainFrom md ops r listed = true → r.length ≤ n → wpOps P ops Q r a w → wpAny P md ops Q n listed a w
  | [], n, listed, a, w, hc, _, h => by
    have hr : Region.ready md ops listed = [] := by simpa [chainFrom] using hc
    cases n with
    | zero => exact ⟨hr, h⟩
    | succ n => exact ⟨fun _ => h, by rw [hr]; intro j hj; cases hj⟩
  | i :: r, 0, _, _, _, _, hn, _ => by simp at hn
  | i :: r, n + 1, listed, a, w, hc, hn, h => by
    simp only [chainFrom, Bool.and_eq_true, beq_iff_eq] at hc
    rw [wpOps_cons] at h
    refine ⟨fun h0 => (by rw [hc.1] at h0; cases h0), fun j hj => ?_⟩
    rw [hc.1] at hj
    obtain rfl := List.mem_singleton.1 hj
    exact wpOp_mono (fun a' w' h' => wpAny_chain r n _ a' w' hc.2 (by simpa using hn) h') h

/-- The last few: they come up in the text's order, one behind the other. -/
theorem det_tail {n : Nat} {listed : Array Bool} {a : Act} {env : List Ent} (hK : (Region.ready md ops listed).all (fun j => decide (K ≤ j)) = true)
    (hc : chainFrom md ops (List.range' K (ops.toList.drop K).length) listed = true) (hn : decide ((ops.toList.drop K).length ≤ n) = true) (h : ∀ w, Env w0 env w → wpList P ops Q (ops.toList.drop K) a w) : DetA P md ops Q w0 K vals n listed a env := by
  have e := wpOps_eq_wpList (P := P) (ops := ops) (Q := Q) (ops.toList.drop K) K (fun j => by simp)
  have h' : ∀ w, Env w0 env w → wpAny P md ops Q n listed a w := fun w hw => wpAny_chain _ n listed a w hc (by simpa using hn) (by rw [e]; exact h w hw)
  have hK' : ∀ j ∈ Region.ready md ops listed, K ≤ j := fun j hj => by simpa using List.all_eq_true.1 hK j hj
  cases n with
  | zero => exact ⟨hK', h'⟩
  | succ n => exact .inl ⟨hK', h'⟩

/-- The first i have come up. -/
def firstN (n i : Nat) : Array Bool := ((List.range n).map fun j => decide (j < i)).toArray

theorem firstN_zero (n : Nat) : firstN n 0 = Array.replicate n false := by
  apply Array.ext
  · simp [firstN]
  · intro j h1 h2
    simp [firstN]

theorem firstN_get (n i j : Nat) : (firstN n i)[j]? = if j < n then some (decide (j < i)) else none := by
  unfold firstN
  rw [List.getElem?_toArray, List.getElem?_map]
  by_cases h : j < n
  · rw [List.getElem?_range h, if_pos h]; rfl
  · rw [List.getElem?_eq_none (by simp; omega), if_neg h]; rfl
theorem firstN_succ (n i : Nat) : (firstN n i).setIfInBounds i true = firstN n (i + 1) := by
  apply Array.ext_getElem?
  intro j
  rw [Array.getElem?_setIfInBounds, firstN_get, firstN_get]
  have hs : (firstN n i).size = n := by simp [firstN]
  by_cases hij : i = j
  · subst hij
    rw [hs, if_pos rfl]
    by_cases h : i < n
    · rw [if_pos h, if_pos h]; simp
    · rw [if_neg h, if_neg h]
  · rw [if_neg hij]
    by_cases h : j < n
    · rw [if_pos h, if_pos h]; congr 2; simp only [eq_iff_iff]; omega
    · rw [if_neg h, if_neg h]

def closedB (md : Region.Mode) (ops : Array Oper) (listed : Array Bool) : Bool :=
  (List.range ops.size).all fun k => !listed.getD k false || match ops[k]? with
    | some ok => ok.after.all fun e => !Region.binds md e || listed.getD e.on false
    | none => true
theorem closedB_spec {listed : Array Bool} (h : closedB md ops listed = true) : Closed md ops listed := by
  intro k ok hk hl e he hb
  have hlt : k < ops.size := (Array.getElem?_eq_some_iff.1 hk).1
  have h1 := List.all_eq_true.1 h k (List.mem_range.2 hlt)
  simp only [hl, hk, Bool.not_true, Bool.false_or] at h1
  have h2 := Array.all_eq_true'.1 h1 e he
  simpa [hb] using h2

/-- All that is asked of number i, reckoned by the kernel. -/
def okAt (ops : Array Oper) (K i : Nat) : Bool :=
  closedB .any ops (firstN ops.size i) && Region.noSelect ops && decide (i < K) && freeK .any ops K (firstN ops.size i) i && (Region.ready .any ops (firstN ops.size i)).contains i

/-- The walk through such a region: 'rest' the operations to come, 'vals' what they are to come to. -/
def DetL (P : Program) (ops : Array Oper) (Q : Exit → Act → World → Prop) (w0 : World) (K : Nat) (i : Nat) (rest : List Oper) (vals : List Tell) (a : Act) (env : List Ent) : Prop :=
  ∀ all : List Tell, ops.toList.drop i = rest → all.drop i = vals → (∃ w, Env w0 env w) → DetA P .any ops Q w0 K all (ops.size - i) (firstN ops.size i) a env

theorem drop_head {α : Type} {l : List α} {i : Nat} {x : α} {r : List α} (h : l.drop i = x :: r) : l[i]? = some x ∧ l.drop (i + 1) = r ∧ i < l.length := by
  have hlt : i < l.length := by
    rcases Nat.lt_or_ge i l.length with h' | h'
    · exact h'
    · rw [List.drop_of_length_le h'] at h; cases h
  rw [List.drop_eq_getElem_cons hlt] at h
  injection h with h1 h2
  exact ⟨by rw [List.getElem?_eq_getElem hlt, h1], h2, hlt⟩

/-- Begin. -/
theorem detL_begin {id : Nat} {l : List Oper} {a : Act} {w : World} (vals : List Tell) (K : Nat) (hm : P.follows .mixedOrders = true)
    (h : DetL P l.toArray Q w.drew K 0 l vals a []) : (Code.region id l.toArray true).wp P Q a w :=
  region_det vals K hm (by have := h vals rfl rfl ⟨w.drew, Below.refl _ _, (fun p hp => by cases hp), List.Pairwise.nil⟩; rwa [firstN_zero, Nat.sub_zero] at this)

theorem detL_val {i : Nat} {oi : Oper} {rest : List Oper} {v : Value} {vs : List Tell} {a : Act} {env : List Ent} (hok : okAt ops K i = true) (hy : YieldsD P .any ops w0 env oi v a)
    (h : DetL P ops Q w0 K (i + 1) rest vs (a.put oi.dst v) env) : DetL P ops Q w0 K i (oi :: rest) (.val v :: vs) a env := by
  intro all hr hv hw
  obtain ⟨h1, h2, h3⟩ := drop_head hr
  obtain ⟨h4, h5, _⟩ := drop_head hv
  have hlt : i < ops.size := by simpa using h3
  simp only [okAt, Bool.and_eq_true] at hok
  obtain ⟨⟨⟨⟨q0, q1⟩, q2⟩, q3⟩, q4⟩ := hok
  have hd := h all h2 h5 hw
  rw [show ops.size - i = (ops.size - (i + 1)) + 1 by omega]
  refine det_val hw (by simpa using h1) h4 q1 q2 (closedB_spec q0) q3 q4 hy ?_
  rw [firstN_succ]
  exact hd

theorem detL_rel {i : Nat} {oi : Oper} {rest : List Oper} {R : Value → List Nat → World → Prop} {vs : List Tell} {a : Act} {env : List Ent} (hok : okAt ops K i = true) (hy : YieldsR P .any ops w0 env oi R a)
    (h : ∀ v F w, Env w0 (⟨i, F, R v F⟩ :: env) w → DetL P ops Q w0 K (i + 1) rest vs (a.put oi.dst v) (⟨i, F, R v F⟩ :: env)) : DetL P ops Q w0 K i (oi :: rest) (.rel R :: vs) a env := by
  intro all hr hv hw
  obtain ⟨h1, h2, h3⟩ := drop_head hr
  obtain ⟨h4, h5, _⟩ := drop_head hv
  have hlt : i < ops.size := by simpa using h3
  simp only [okAt, Bool.and_eq_true] at hok
  obtain ⟨⟨⟨⟨q0, q1⟩, q2⟩, q3⟩, q4⟩ := hok
  rw [show ops.size - i = (ops.size - (i + 1)) + 1 by omega]
  refine det_rel hw (by simpa using h1) h4 q1 q2 (closedB_spec q0) q3 q4 hy fun v F ⟨w, hF⟩ => ?_
  rw [firstN_succ]
  exact h v F w hF all h2 h5 ⟨w, hF⟩

/-- All have come up: the walk goes on behind the region. -/
theorem detL_done {i : Nat} {a : Act} {env : List Ent} (hr : (Region.ready .any ops (firstN ops.size i) == []) = true) (h : ∀ w, Env w0 env w → Q .normal a w) : DetL P ops Q w0 K i [] [] a env :=
  fun _ _ _ _ => det_done (by simpa using hr) h

/-- The last few come up in one order: the walk goes on with them. -/
def okTail (ops : Array Oper) (K : Nat) : Bool :=
  (Region.ready .any ops (firstN ops.size K)).all (fun j => decide (K ≤ j)) && chainFrom .any ops (List.range' K (ops.toList.drop K).length) (firstN ops.size K) && decide ((ops.toList.drop K).length ≤ ops.size - K)
theorem detL_tail {rest : List Oper} {vs : List Tell} {a : Act} {env : List Ent} {i : Nat} (hi : (i == K) = true) (hok : okTail ops K = true) (h : ∀ w, Env w0 env w → wpList P ops Q rest a w) : DetL P ops Q w0 K i rest vs a env := by
  obtain rfl : i = K := by simpa using hi
  intro all hr _ _
  simp only [okTail, Bool.and_eq_true] at hok
  obtain ⟨⟨q1, q2⟩, q3⟩ := hok
  exact det_tail q1 q2 q3 fun w hw => by rw [hr]; exact h w hw

/-! ### What one operation comes to -/
theorem yields_of {env : List Ent} {o : Oper} {v : Value} {a : Act} (hw : Region.wanted o (yielded ops a.tmps) = true) (h : ∀ w, Below w0.heap.size w0 w → Det1 P v w ((execOp a.eval o).run P w)) : YieldsD P md ops w0 env o v a := .inl ⟨hw, fun w hw => h w hw.below⟩
theorem yields_env {env : List Ent} {o : Oper} {v : Value} {a : Act} (hw : Region.wanted o (yielded ops a.tmps) = true) (h : ∀ w, Env w0 (env.filter (depB md o)) w → Det1 P v w ((execOp a.eval o).run P w)) : YieldsD P md ops w0 env o v a := .inl ⟨hw, h⟩
theorem yields_rel {env : List Ent} {o : Oper} {R : Value → List Nat → World → Prop} {a : Act} (hw : Region.wanted o (yielded ops a.tmps) = true) (hl : ∀ u F, Lasting (R u F)) (h : ∀ w, Env w0 (env.filter (depB md o)) w → Rel1 P R w ((execOp a.eval o).run P w)) : YieldsR P md ops w0 env o R a := ⟨hw, hl, h⟩
theorem yields_not {env : List Ent} {o : Oper} {a : Act} (hw : Region.wanted o (yielded ops a.tmps) = false) : YieldsD P md ops w0 env o undef a := .inr ⟨hw, rfl⟩
theorem Det1_value {v u : Value} {w w' : World} (h : u = v) (hb : Below w.heap.size w w') : Det1 P v w (.ok (.value u) w') := ⟨h, hb⟩
theorem Det1_same {v : Value} {w : World} : Det1 P v w (.ok (.value v) w) := ⟨rfl, Below.refl _ _⟩
theorem Det1_eq3 {p q r : Prop} [Decidable p] [Decidable q] [Decidable r] {b : Bool} {w : World} (h : b = decide (p ∧ q ∧ r)) :
    Det1 P (.bool b) w (if p then if q then if r then .ok (.value (.bool true)) w else .ok (.value (.bool false)) w else .ok (.value (.bool false)) w else .ok (.value (.bool false)) w) := by
  subst h
  by_cases hp : p <;> by_cases hq : q <;> by_cases hr : r <;> simp only [hp, hq, hr, if_true, if_false, and_true, and_false, decide_true, decide_false] <;> exact Det1_same
theorem Det1_enter {v : Value} {w w' : World} {f : FuncId} {args : Array Value} (h : Calls P f args w' fun e w'' => e = .returned v ∧ Below w.heap.size w w'') : Det1 P v w (.ok (.enter f args) w') := h
end
end Go.Proofs.YtmhkmliebhbkdaaGreat.D2
