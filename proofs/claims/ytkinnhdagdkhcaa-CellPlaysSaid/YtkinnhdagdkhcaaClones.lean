/- CellClones: the walk of the law. -/
import Derived.Test.YtkinnhdagdkhcaaTrace
namespace Go.Proofs.Ytkinnhdagdkhcaa
open Go.RowKit

/-- Setting a cell, wherever. -/
def setAt (cs : List (Int × Int)) (i : Int) (q : Int × Int) : List (Int × Int) := if 0 ≤ i ∧ i < cs.length then cs.set i.toNat q else cs
theorem setAt_len (cs : List (Int × Int)) (i : Int) (q : Int × Int) : (setAt cs i q).length = cs.length := by
  unfold setAt
  split <;> simp
/-- What the law does to the clone. -/
def runSets : List StepD → List (Int × Int) → List EvD → List (Int × Int) × List EvD
  | [], cs, E => (cs, E)
  | s :: r, cs, E => runSets r (setAt (s.res cs E).cs s.i s.n) (s.res cs E).E
theorem runSets_snoc (l : List StepD) (s : StepD) : ∀ (cs : List (Int × Int)) (E : List EvD), runSets (l ++ [s]) cs E = (setAt (s.res (runSets l cs E).1 (runSets l cs E).2).cs s.i s.n, (s.res (runSets l cs E).1 (runSets l cs E).2).E) := by
  induction l with
  | nil => intro cs E; rfl
  | cons c r ih => intro cs E; simp only [List.cons_append, runSets, ih]
theorem runSets_take (l : List StepD) (k : Nat) (hk : k < l.length) (cs : List (Int × Int)) (E : List EvD) :
    runSets (l.take (k + 1)) cs E = (setAt (l[k].res (runSets (l.take k) cs E).1 (runSets (l.take k) cs E).2).cs l[k].i l[k].n, (l[k].res (runSets (l.take k) cs E).1 (runSets (l.take k) cs E).2).E) := by
  rw [List.take_succ_eq_append_getElem hk, runSets_snoc]
theorem doStep_pre (cs : List (Int × Int)) (E : List EvD) (who k i : Int) (o n : Int × Int) : ∃ F, (doStep cs E who k i o n).E = E ++ F := by
  unfold doStep
  split
  · exact ⟨[], by simp⟩
  · exact ⟨_, rfl⟩
theorem runSets_facts (l : List StepD) : ∀ (cs : List (Int × Int)) (E : List EvD), (∃ F, (runSets l cs E).2 = E ++ F) ∧ (runSets l cs E).2.length ≤ E.length + l.length := by
  induction l with
  | nil => intro cs E; exact ⟨⟨[], by simp [runSets]⟩, by simp [runSets]⟩
  | cons c r ih =>
    intro cs E
    obtain ⟨⟨F, hF⟩, hl⟩ := ih (setAt (c.res cs E).cs c.i c.n) (c.res cs E).E
    obtain ⟨G, hG⟩ := doStep_pre cs E c.who c.k c.i c.o c.n
    have h' := doStep_len cs E c.who c.k c.i c.o c.n
    simp only [runSets, List.length_cons]
    simp only [StepD.res] at hF hl ⊢
    exact ⟨⟨G ++ F, by rw [hF, hG, List.append_assoc]⟩, by omega⟩

theorem run_ev_neq (W : World) (who k i : Int) (o n p : Int × Int) (ok : Bool) : (binOp .neq 57 (.agg #[.int .i64 who, .int .i64 k, .int .i64 i, .int .u64 o.1, .int .u64 o.2, .int .u64 n.1, .int .u64 n.2, .int .u64 p.1, .int .u64 p.2, .bool ok])
    (.agg #[.int .i64 who, .int .i64 k, .int .i64 i, .int .u64 o.1, .int .u64 o.2, .int .u64 n.1, .int .u64 n.2, .int .u64 p.1, .int .u64 p.2, .bool ok])).run Try.prog W = .ok (.bool false) W := by
  simp [go_sem]

/-- Setting a cell of one of two memories: the other one stays, and so does what else is there. -/
theorem set_both {w0 w : World} {b g cap : Nat} {ev : Value} {cs : List (Int × Int)} {E : List EvD} (h : Inv w0 w b g cap ev cs E) {b' g' cap' : Nat} {ev' : Value} {cs' : List (Int × Int)} {E' : List EvD} (h' : Inv w0 w b' g' cap' ev' cs' E')
    (hd : Disj b g ev b' g' ev') (i : Int) (q : Int × Int) :
    Calls Try.prog 18 #[.pointer (some ⟨b, 0, none⟩), .int .i64 i, cellV q] w fun e w' => ∃ x, e = .returned (.int .i64 x) ∧ Inv w0 w' b g cap ev (setAt cs i q) E ∧ Kept (Foot b g ev) w w' ∧ Inv w0 w' b' g' cap' ev' cs' E' := by
  have other : ∀ w', Kept (Foot b g ev) w w' → Kept (fun _ => False) w0 w' → Inv w0 w' b' g' cap' ev' cs' E' := fun w' hk h0 =>
    ⟨IsMem.keep h'.mm hk (fun x => hd _ x (.inl rfl)) (fun x => hd _ x (.inr (.inl rfl))) (fun x hx y => hd _ y (.inr (.inr hx))), h0, h'.hb, h'.hg, h'.he⟩
  by_cases hi : 0 ≤ i ∧ i < cs.length
  · obtain ⟨i', rfl⟩ := Int.eq_ofNat_of_zero_le hi.1
    refine (set_inv h i' q (by omega)).mono fun e w' ⟨he, hI, hk⟩ => ⟨0, he, ?_, hk, other w' hk hI.kept⟩
    unfold setAt
    rw [if_pos hi, Int.toNat_natCast]
    exact hI
  · refine (set_no w b i q _ _ _ h.mm.blk.m0 (by omega)).mono fun e w' ⟨he, hb⟩ => ?_
    have hk : Kept (fun _ => False) w w' := (Kept.below hb).mono (fun k hk h => by omega)
    have hk' : Kept (Foot b g ev) w w' := hk.mono (fun _ _ h => h.elim)
    refine ⟨31, he, ?_, hk', other w' hk' (h.kept.trans hk)⟩
    unfold setAt
    rw [if_neg hi]
    exact h.more hk

/-- The head of the loop over the first steps. -/
def ClonesRel1 (w1 : World) (b g sz : Nat) (l : List StepD) (i : Value) (wr : World) : Prop :=
  ∃ (k : Nat) (ev : Value), k ≤ l.length ∧ i = .int .i64 k ∧ Inv w1 wr b g sz ev (runSteps (l.take k) (List.replicate sz (0, 0)) []).1 (runSteps (l.take k) (List.replicate sz (0, 0)) []).2

end Go.Proofs.Ytkinnhdagdkhcaa
