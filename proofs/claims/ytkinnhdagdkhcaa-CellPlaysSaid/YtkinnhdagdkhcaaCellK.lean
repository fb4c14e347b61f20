/- Layer 1 (cell): plain facts on steps: rows of steps; two steps of different cells; two memories side by side. -/
import Derived.Test.YtkinnhdagdkhcaaCellO
namespace Go.Proofs.Ytkinnhdagdkhcaa
open Go.RowKit

def StepD.res (s : StepD) (cs : List (Int × Int)) (E : List EvD) : Res := doStep cs E s.who s.k s.i s.o s.n
theorem doStep_len (cs : List (Int × Int)) (E : List EvD) (who k i : Int) (o n : Int × Int) : (doStep cs E who k i o n).cs.length = cs.length ∧ (doStep cs E who k i o n).E.length ≤ E.length + 1 := by
  unfold doStep
  split <;> simp
/-- What a row of steps comes to. -/
def runSteps : List StepD → List (Int × Int) → List EvD → List (Int × Int) × List EvD
  | [], cs, E => (cs, E)
  | s :: r, cs, E => runSteps r (s.res cs E).cs (s.res cs E).E
theorem runSteps_snoc (l : List StepD) (s : StepD) : ∀ (cs : List (Int × Int)) (E : List EvD), runSteps (l ++ [s]) cs E = ((s.res (runSteps l cs E).1 (runSteps l cs E).2).cs, (s.res (runSteps l cs E).1 (runSteps l cs E).2).E) := by
  induction l with
  | nil => intro cs E; rfl
  | cons c r ih => intro cs E; simp only [List.cons_append, runSteps, ih]
theorem runSteps_take (l : List StepD) (k : Nat) (hk : k < l.length) (cs : List (Int × Int)) (E : List EvD) :
    runSteps (l.take (k + 1)) cs E = ((l[k].res (runSteps (l.take k) cs E).1 (runSteps (l.take k) cs E).2).cs, (l[k].res (runSteps (l.take k) cs E).1 (runSteps (l.take k) cs E).2).E) := by
  rw [List.take_succ_eq_append_getElem hk, runSteps_snoc]
theorem runSteps_len (l : List StepD) : ∀ (cs : List (Int × Int)) (E : List EvD), (runSteps l cs E).1.length = cs.length ∧ (runSteps l cs E).2.length ≤ E.length + l.length := by
  induction l with
  | nil => intro cs E; simp [runSteps]
  | cons c r ih =>
    intro cs E
    have h := ih (c.res cs E).cs (c.res cs E).E
    have h' := doStep_len cs E c.who c.k c.i c.o c.n
    simp only [runSteps, List.length_cons]
    simp only [StepD.res] at h ⊢
    omega

theorem doErr_len {cs cs' : List (Int × Int)} (h : cs'.length = cs.length) (who k i : Int) : doErr cs' who k i = doErr cs who k i := by
  unfold doErr; rw [h]
theorem doStep_bad {cs : List (Int × Int)} {E : List EvD} {who k i : Int} {o n : Int × Int} (h : doErr cs who k i ≠ 0) : doStep cs E who k i o n = ⟨cs, E, (0, 0), false, doErr cs who k i⟩ := by
  unfold doStep; rw [if_pos h]
theorem doStep_good {cs : List (Int × Int)} {E : List EvD} {who k i : Int} {o n : Int × Int} (h : doErr cs who k i = 0) : doStep cs E who k i o n =
    ⟨cs.set i.toNat (becomes (cs.getD i.toNat (0, 0)) k o n).1, E ++ [⟨who, k, i, o, n, cs.getD i.toNat (0, 0), (becomes (cs.getD i.toNat (0, 0)) k o n).2⟩], cs.getD i.toNat (0, 0), (becomes (cs.getD i.toNat (0, 0)) k o n).2, 0⟩ := by
  unfold doStep; rw [h]; rfl

/-- A step of another cell makes no difference to what a step tells. -/
theorem apart_tell (cs : List (Int × Int)) (E E' : List EvD) (a b : StepD) (hne : a.i ≠ b.i) (hb : 0 ≤ b.i) (ha : 0 ≤ a.i) :
    (a.res (b.res cs E').cs E).p = (a.res cs E).p ∧ (a.res (b.res cs E').cs E).ok = (a.res cs E).ok ∧ (a.res (b.res cs E').cs E).err = (a.res cs E).err := by
  simp only [StepD.res]
  by_cases hb0 : doErr cs b.who b.k b.i = 0
  · rw [doStep_good hb0]
    simp only
    have hl := doErr_len (show (cs.set b.i.toNat (becomes (cs.getD b.i.toNat (0, 0)) b.k b.o b.n).1).length = cs.length by simp) a.who a.k a.i
    by_cases ha0 : doErr cs a.who a.k a.i = 0
    · rw [doStep_good (hl.trans ha0), doStep_good ha0]
      have hd : (cs.set b.i.toNat (becomes (cs.getD b.i.toNat (0, 0)) b.k b.o b.n).1).getD a.i.toNat (0, 0) = cs.getD a.i.toNat (0, 0) := by
        simp only [List.getD_eq_getElem?_getD]; rw [List.getElem?_set_ne (by omega)]
      rw [hd]
      exact ⟨rfl, rfl, rfl⟩
    · rw [doStep_bad (by rw [hl]; exact ha0), doStep_bad ha0]
      exact ⟨rfl, rfl, hl⟩
  · rw [doStep_bad hb0]
    exact ⟨rfl, rfl, rfl⟩
theorem apart_cells (cs : List (Int × Int)) (E E' F F' : List EvD) (a b : StepD) (hne : a.i ≠ b.i) (hb : 0 ≤ b.i) (ha : 0 ≤ a.i) : (b.res (a.res cs E).cs E').cs = (a.res (b.res cs F).cs F').cs := by
  simp only [StepD.res]
  have la := doErr_len (doStep_len cs F b.who b.k b.i b.o b.n).1 a.who a.k a.i
  have lb := doErr_len (doStep_len cs E a.who a.k a.i a.o a.n).1 b.who b.k b.i
  by_cases ha0 : doErr cs a.who a.k a.i = 0 <;> by_cases hb0 : doErr cs b.who b.k b.i = 0
  · rw [doStep_good (lb.trans hb0), doStep_good (la.trans ha0), doStep_good ha0, doStep_good hb0]
    simp only [List.getD_eq_getElem?_getD]
    rw [List.getElem?_set_ne (by omega), List.getElem?_set_ne (by omega)]
    exact List.set_comm _ _ (by omega)
  · rw [doStep_bad (show doErr (doStep cs E a.who a.k a.i a.o a.n).cs b.who b.k b.i ≠ 0 by rw [lb]; exact hb0), doStep_good (la.trans ha0), doStep_good ha0, doStep_bad hb0]
  · rw [doStep_bad (show doErr (doStep cs F b.who b.k b.i b.o b.n).cs a.who a.k a.i ≠ 0 by rw [la]; exact ha0), doStep_good (lb.trans hb0), doStep_good hb0, doStep_bad ha0]
  · rw [doStep_bad (show doErr (doStep cs F b.who b.k b.i b.o b.n).cs a.who a.k a.i ≠ 0 by rw [la]; exact ha0), doStep_bad (show doErr (doStep cs E a.who a.k a.i a.o a.n).cs b.who b.k b.i ≠ 0 by rw [lb]; exact hb0), doStep_bad ha0, doStep_bad hb0]
theorem res_E (cs : List (Int × Int)) (E : List EvD) (a : StepD) : (a.res cs E).E.length = E.length + if doErr cs a.who a.k a.i = 0 then 1 else 0 := by
  simp only [StepD.res]
  by_cases h : doErr cs a.who a.k a.i = 0
  · rw [doStep_good h]; simp [h]
  · rw [doStep_bad h]; simp [h]
theorem apart_total (cs : List (Int × Int)) (E : List EvD) (a b : StepD) : (b.res (a.res cs E).cs (a.res cs E).E).E.length = (a.res (b.res cs E).cs (b.res cs E).E).E.length := by
  have la := doErr_len (doStep_len cs E b.who b.k b.i b.o b.n).1 a.who a.k a.i
  have lb := doErr_len (doStep_len cs E a.who a.k a.i a.o a.n).1 b.who b.k b.i
  have la' : doErr (b.res cs E).cs a.who a.k a.i = doErr cs a.who a.k a.i := la
  have lb' : doErr (a.res cs E).cs b.who b.k b.i = doErr cs b.who b.k b.i := lb
  simp only [res_E, la', lb']
  omega

/-- Two memories share no block. -/
def Disj (b g : Nat) (ev : Value) (b' g' : Nat) (ev' : Value) : Prop := ∀ x, Foot b g ev x → ¬ Foot b' g' ev' x
theorem Disj.symm {b g : Nat} {ev : Value} {b' g' : Nat} {ev' : Value} (h : Disj b g ev b' g' ev') : Disj b' g' ev' b g ev := fun x hx hy => h x hy hx
theorem Mm.foot_lt {w : World} {b g cap : Nat} {ev : Value} {cs : List (Int × Int)} {E : List EvD} (M : Mm w b g cap ev cs E) {x : Nat} (h : Foot b g ev x) : x < w.heap.size := by
  rcases h with rfl | rfl | h
  · exact M.blk.lt
  · exact M.g_lt
  · exact (M.ev_at h).1
theorem Inv.foot_ge {w0 w : World} {b g cap : Nat} {ev : Value} {cs : List (Int × Int)} {E : List EvD} (M : Inv w0 w b g cap ev cs E) {x : Nat} (h : Foot b g ev x) : w0.heap.size ≤ x := by
  rcases h with rfl | rfl | h
  · exact M.hb
  · exact M.hg
  · exact M.he x h
theorem Inv.disj {w0 w w' : World} {b g cap : Nat} {ev : Value} {cs : List (Int × Int)} {E : List EvD} {b' g' cap' : Nat} {ev' : Value} {cs' : List (Int × Int)} {E' : List EvD} (M : Inv w0 w b g cap ev cs E) (N : Inv w w' b' g' cap' ev' cs' E') :
    Disj b g ev b' g' ev' := fun x hx hy => by
  have := M.mm.foot_lt hx
  have := N.foot_ge hy
  omega
theorem Inv.base {w0 w w' : World} {b g cap : Nat} {ev : Value} {cs : List (Int × Int)} {E : List EvD} (h : Inv w w' b g cap ev cs E) (k : Kept (fun _ => False) w0 w) : Inv w0 w' b g cap ev cs E :=
  ⟨h.mm, k.trans h.kept, Nat.le_trans k.size h.hb, Nat.le_trans k.size h.hg, fun x hx => Nat.le_trans k.size (h.he x hx)⟩

/-- A step on one of two memories: the other one stays. -/
theorem do_two {w0 w : World} {b g cap : Nat} {ev : Value} {cs : List (Int × Int)} {E : List EvD} (h : Inv w0 w b g cap ev cs E) {b' g' cap' : Nat} {ev' : Value} {cs' : List (Int × Int)} {E' : List EvD} (h' : Inv w0 w b' g' cap' ev' cs' E')
    (hd : Disj b g ev b' g' ev') (who k i : Int) (o n : Int × Int) (hm : E.length ≤ 1000) (r : Res) (hr : doStep cs E who k i o n = r) :
    Calls Try.prog 12 #[.pointer (some ⟨b, 0, none⟩), .int .i64 who, opV k i o n] w fun e w' => e = .returned (.tuple #[outV r.p r.ok, .int .i64 r.err]) ∧
      ∃ ev1, Inv w0 w' b g cap ev1 r.cs r.E ∧ Kept (Foot b g ev) w w' ∧ Inv w0 w' b' g' cap' ev' cs' E' ∧ Disj b g ev1 b' g' ev' :=
  (do_calls w b g cap ev cs E h.mm who k i o n hm r hr).mono fun _ w' ⟨he, ev1, hM, hk, hev⟩ => by
    have hi : Inv w0 w' b g cap ev1 r.cs r.E := ⟨hM, h.kept.foot hk h.hb h.hg h.he, h.hb, h.hg, fresh_next h.kept h.he hev⟩
    refine ⟨he, ev1, hi, hk, ⟨IsMem.keep h'.mm hk (fun x => hd _ x (.inl rfl)) (fun x => hd _ x (.inr (.inl rfl))) (fun x hx y => hd _ y (.inr (.inr hx))), hi.kept, h'.hb, h'.hg, h'.he⟩, ?_⟩
    rintro x (hx | hx | hx) hy
    · exact hd x (.inl hx) hy
    · exact hd x (.inr (.inl hx)) hy
    · rcases hev with hev | ⟨z, hz, hzs⟩
      · exact hd x (.inr (.inr (hev ▸ hx))) hy
      · rw [hz] at hx
        injection hx with hx
        have := h'.mm.foot_lt hy
        omega

end Go.Proofs.Ytkinnhdagdkhcaa
