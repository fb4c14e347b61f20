/- Layer 1 (cell): plain facts on traces. -/
import Derived.Test.YtkinnhdagdkhcaaApart
import Derived.Test.YtkinnhdagdkhcaaCellU
namespace Go.Proofs.Ytkinnhdagdkhcaa
open Go.RowKit

def evS (e : EvD) : StepD := ⟨e.who, e.k, e.i, e.o, e.n⟩
/-- The cells behind a trace. -/
def after : List (Int × Int) → List EvD → List (Int × Int)
  | cs, [] => cs
  | cs, e :: r => after (cs.set e.i.toNat (becomes e.p e.k e.o e.n).1) r
/-- A trace that these cells bring about. -/
def Good : List (Int × Int) → List EvD → Prop
  | _, [] => True
  | cs, e :: r => (doErr cs e.who e.k e.i = 0 ∧ e.p = cs.getD e.i.toNat (0, 0) ∧ e.ok = (becomes e.p e.k e.o e.n).2) ∧ Good (cs.set e.i.toNat (becomes e.p e.k e.o e.n).1) r
theorem after_append (a b : List EvD) : ∀ cs, after cs (a ++ b) = after (after cs a) b := by
  induction a with
  | nil => intro cs; rfl
  | cons e r ih => intro cs; exact ih _
theorem Good_append (a b : List EvD) : ∀ cs, Good cs (a ++ b) ↔ Good cs a ∧ Good (after cs a) b := by
  induction a with
  | nil => intro cs; simp [Good, after]
  | cons e r ih => intro cs; simp only [List.cons_append, Good, after, ih, and_assoc]
theorem Good_step (cs : List (Int × Int)) (E : List EvD) (k : Nat) (hk : k < E.length) (h : Good cs E) :
    (evS E[k]).res (after cs (E.take k)) (E.take k) = ⟨after cs (E.take (k + 1)), E.take (k + 1), E[k].p, E[k].ok, 0⟩ := by
  have hs : E = E.take k ++ E[k] :: E.drop (k + 1) := by rw [← List.drop_eq_getElem_cons hk, List.take_append_drop]
  rw [hs, Good_append] at h
  obtain ⟨⟨h0, hp, hok⟩, _⟩ := h.2
  rw [List.take_succ_eq_append_getElem hk, after_append]
  simp only [after, StepD.res, evS]
  rw [doStep_good h0, ← hp, ← hok]
theorem runSteps_good (l : List StepD) : ∀ (cs0 : List (Int × Int)) (E : List EvD), Good cs0 E → Good cs0 (runSteps l (after cs0 E) E).2 ∧ (runSteps l (after cs0 E) E).1 = after cs0 (runSteps l (after cs0 E) E).2 := by
  induction l with
  | nil => intro cs0 E h; exact ⟨h, rfl⟩
  | cons s r ih =>
    intro cs0 E h
    simp only [runSteps, StepD.res]
    by_cases h0 : doErr (after cs0 E) s.who s.k s.i = 0
    · rw [doStep_good h0]
      have hg : Good cs0 (E ++ [⟨s.who, s.k, s.i, s.o, s.n, (after cs0 E).getD s.i.toNat (0, 0), (becomes ((after cs0 E).getD s.i.toNat (0, 0)) s.k s.o s.n).2⟩]) :=
        (Good_append _ _ _).2 ⟨h, ⟨h0, rfl, rfl⟩, trivial⟩
      have := ih cs0 _ hg
      rw [after_append] at this
      exact this
    · rw [doStep_bad h0]
      exact ih cs0 E h
theorem after_len (E : List EvD) : ∀ cs, (after cs E).length = cs.length := by
  induction E with
  | nil => intro cs; rfl
  | cons e r ih => intro cs; simp [after, ih]
theorem Good_who (E : List EvD) : ∀ cs, Good cs E → ∀ e ∈ E, 0 ≤ e.who ∧ e.who < 8 := by
  induction E with
  | nil => intro cs _ e he; cases he
  | cons c r ih =>
    intro cs h e he
    rcases List.mem_cons.1 he with rfl | he
    · exact (doErr_zero h.1.1).1
    · exact ih _ h.2 e he

/-- How many steps the first threads have done. -/
def sumTo (E : List EvD) (k : Nat) : Int := ((E.filter fun e => decide (e.who < (k : Int))).length : Nat)
theorem sumTo_succ (E : List EvD) (k : Fin 8) (h : ∀ e ∈ E, 0 ≤ e.who ∧ e.who < 8) : sumTo E (k.val + 1) = sumTo E k.val + stepsOf E k := by
  unfold sumTo stepsOf
  induction E with
  | nil => rfl
  | cons e r ih =>
    have := ih (fun e he => h e (List.mem_cons_of_mem _ he))
    have hw := h e (List.mem_cons_self ..)
    simp only [List.filter_cons]
    have cons : ∀ (b : Bool) (l : List EvD), ((if b = true then e :: l else l).length : Int) = l.length + if b = true then 1 else 0 := by
      intro b l
      cases b <;> simp
    simp only [cons]
    by_cases h1 : e.who < (k.val : Int)
    · rw [decide_eq_true h1, decide_eq_true (show e.who < ((k.val + 1 : Nat) : Int) by omega), decide_eq_false (show ¬ e.who = ((k.val : Nat) : Int) by omega)]
      simp only [if_true, Bool.false_eq_true, if_false]
      omega
    · by_cases h3 : e.who = ((k.val : Nat) : Int)
      · rw [decide_eq_false h1, decide_eq_true (show e.who < ((k.val + 1 : Nat) : Int) by omega), decide_eq_true h3]
        simp only [if_true, Bool.false_eq_true, if_false]
        omega
      · rw [decide_eq_false h1, decide_eq_false (show ¬ e.who < ((k.val + 1 : Nat) : Int) by omega), decide_eq_false h3]
        simp only [Bool.false_eq_true, if_false]
        omega
theorem sumTo_zero (E : List EvD) (h : ∀ e ∈ E, 0 ≤ e.who ∧ e.who < 8) : sumTo E 0 = 0 := by
  unfold sumTo
  rw [List.filter_eq_nil_iff.2]
  · rfl
  · intro e he
    have := h e he
    simp; omega
theorem sumTo_all (E : List EvD) (h : ∀ e ∈ E, 0 ≤ e.who ∧ e.who < 8) : sumTo E 8 = E.length := by
  unfold sumTo
  rw [List.filter_eq_self.2]
  intro e he
  have := h e he
  simp; omega
theorem sumTo_le (E : List EvD) (k : Nat) : 0 ≤ sumTo E k ∧ sumTo E k ≤ E.length := by
  unfold sumTo
  have := List.length_filter_le (fun e : EvD => decide (e.who < (k : Int))) E
  omega

theorem blk_step {w : World} {b : Nat} {cv ev : Value} {s : Fin 8 → Int} (h : Blk w b 65 (memArr cv ev s)) (j : Fin 8) : w.cell? ⟨b, 1 + j.val, none⟩ = some (.int .i64 (s j)) := by
  rw [h.cell]
  match j with | 0 => rfl | 1 => rfl | 2 => rfl | 3 => rfl | 4 => rfl | 5 => rfl | 6 => rfl | 7 => rfl

/-- A step on one of two memories: the other one stays, and so does what else is there. -/
theorem do_both {w0 w : World} {b g cap : Nat} {ev : Value} {cs : List (Int × Int)} {E : List EvD} (h : Inv w0 w b g cap ev cs E) {b' g' cap' : Nat} {ev' : Value} {cs' : List (Int × Int)} {E' : List EvD} (h' : Inv w0 w b' g' cap' ev' cs' E')
    (hd : Disj b g ev b' g' ev') (who k i : Int) (o n : Int × Int) (hm : E.length ≤ 1000) (r : Res) (hr : doStep cs E who k i o n = r) :
    Calls Try.prog 12 #[.pointer (some ⟨b, 0, none⟩), .int .i64 who, opV k i o n] w fun e w' => e = .returned (.tuple #[outV r.p r.ok, .int .i64 r.err]) ∧
      ∃ ev1, Inv w0 w' b g cap ev1 r.cs r.E ∧ Kept (Foot b g ev) w w' ∧ Inv w0 w' b' g' cap' ev' cs' E' ∧ Disj b g ev1 b' g' ev' ∧ (∀ x, x < w.heap.size → ¬ Foot b g ev x → ¬ Foot b g ev1 x) :=
  (do_calls w b g cap ev cs E h.mm who k i o n hm r hr).mono fun _ w' ⟨he, ev1, hM, hk, hev⟩ => by
    have hi : Inv w0 w' b g cap ev1 r.cs r.E := ⟨hM, h.kept.foot hk h.hb h.hg h.he, h.hb, h.hg, fresh_next h.kept h.he hev⟩
    have hnext : ∀ x, x < w.heap.size → ¬ Foot b g ev x → ¬ Foot b g ev1 x := by
      rintro x hx hn (hf | hf | hf)
      · exact hn (.inl hf)
      · exact hn (.inr (.inl hf))
      · rcases hev with hev | ⟨z, hz, hzs⟩
        · exact hn (.inr (.inr (hev ▸ hf)))
        · rw [hz] at hf
          injection hf with hf
          omega
    refine ⟨he, ev1, hi, hk, ⟨IsMem.keep h'.mm hk (fun x => hd _ x (.inl rfl)) (fun x => hd _ x (.inr (.inl rfl))) (fun x hx y => hd _ y (.inr (.inr hx))), hi.kept, h'.hb, h'.hg, h'.he⟩, ?_, hnext⟩
    intro x hx hy
    exact hnext x (h'.mm.foot_lt hy) (fun hf => hd x hf hy) hx

end Go.Proofs.Ytkinnhdagdkhcaa
