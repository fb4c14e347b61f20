/- Layer 1 (cell): the memory and what Do makes of it, as plain functions. -/
import Derived.Test.YtkinnhdagdkhcaaCellG
namespace Go.Proofs.Ytkinnhdagdkhcaa
open Go.RowKit

def stepsOf (E : List EvD) : Fin 8 → Int := fun j => ((E.filter fun e => decide (e.who = ((j.val : Nat) : Int))).length : Nat)
theorem stepsOf_le (E : List EvD) (j : Fin 8) : 0 ≤ stepsOf E j ∧ stepsOf E j ≤ E.length := by
  unfold stepsOf
  have := List.length_filter_le (fun e : EvD => decide (e.who = ((j.val : Nat) : Int))) E
  omega
theorem stepsOf_snoc (E : List EvD) (e : EvD) (who : Fin 8) (h : e.who = ((who.val : Nat) : Int)) : bump (stepsOf E) who = stepsOf (E ++ [e]) := by
  funext j
  unfold bump stepsOf
  by_cases hj : j = who
  · subst hj
    rw [if_pos rfl, List.filter_append]
    simp [h]
  · have : ¬ ((who.val : Nat) : Int) = ((j.val : Nat) : Int) := fun e => hj (Fin.ext (by omega))
    rw [if_neg hj, List.filter_append]
    simp [h, this]

/-- The memory at block b, in short. -/
def Mm (w : World) (b g cap : Nat) (ev : Value) (cs : List (Int × Int)) (E : List EvD) : Prop := IsMem w b g cap ev cs (stepsOf E) (flatE E) E.length

/-- What a step comes to: the cells, the steps, what was there, whether it is done, the error. -/
structure Res where
  cs : List (Int × Int)
  E : List EvD
  p : Int × Int
  ok : Bool
  err : Int
def doErr (cs : List (Int × Int)) (who k i : Int) : Int :=
  if who < 0 ∨ 8 ≤ who then 1 else if k < 0 ∨ 3 < k then 32 else if i < 0 ∨ (cs.length : Int) ≤ i then 31 else 0
def doStep (cs : List (Int × Int)) (E : List EvD) (who k i : Int) (o n : Int × Int) : Res :=
  if doErr cs who k i ≠ 0 then ⟨cs, E, (0, 0), false, doErr cs who k i⟩
  else
    let p := cs.getD i.toNat (0, 0)
    let q := becomes p k o n
    ⟨cs.set i.toNat q.1, E ++ [⟨who, k, i, o, n, p, q.2⟩], p, q.2, 0⟩

/-- The blocks of a memory. -/
def Foot (b g : Nat) (ev : Value) (x : Nat) : Prop := x = b ∨ x = g ∨ ev.ownBlock = some x

theorem doErr_zero {cs : List (Int × Int)} {who k i : Int} (h : doErr cs who k i = 0) : (0 ≤ who ∧ who < 8) ∧ (0 ≤ k ∧ k ≤ 3) ∧ 0 ≤ i ∧ i < cs.length := by
  unfold doErr at h
  split at h
  · omega
  · split at h
    · omega
    · split at h
      · omega
      · omega

theorem do_calls (w : World) (b g cap : Nat) (ev : Value) (cs : List (Int × Int)) (E : List EvD) (M : Mm w b g cap ev cs E) (who k i : Int) (o n : Int × Int) (hm : E.length ≤ 1000) (r : Res) (hr : doStep cs E who k i o n = r) :
    Calls Try.prog 12 #[.pointer (some ⟨b, 0, none⟩), .int .i64 who, opV k i o n] w fun e w' => e = .returned (.tuple #[outV r.p r.ok, .int .i64 r.err]) ∧
      ∃ ev', Mm w' b g cap ev' r.cs r.E ∧ Kept (Foot b g ev) w w' ∧ (ev'.ownBlock = ev.ownBlock ∨ ∃ x, ev'.ownBlock = some x ∧ w.heap.size ≤ x) := by
  have bad : ∀ (x : Int) (e : Ending) (w' : World), doErr cs who k i = x → x ≠ 0 → (e = .returned (.tuple #[outV (0, 0) false, .int .i64 x]) ∧ Below w.heap.size w w') →
      e = .returned (.tuple #[outV r.p r.ok, .int .i64 r.err]) ∧ ∃ ev', Mm w' b g cap ev' r.cs r.E ∧ Kept (Foot b g ev) w w' ∧ (ev'.ownBlock = ev.ownBlock ∨ ∃ x, ev'.ownBlock = some x ∧ w.heap.size ≤ x) := by
    rintro x e w' hx hx0 ⟨he, hw⟩
    have hk : Kept (fun _ => False) w w' := (Kept.below hw).mono (fun k hk h => by omega)
    have hr' : r = ⟨cs, E, (0, 0), false, x⟩ := by
      rw [← hr]; unfold doStep; rw [hx, if_pos hx0]
    subst hr'
    exact ⟨he, ev, IsMem.keep M hk (fun h => h) (fun h => h) (fun _ _ h => h), hk.mono (fun _ _ h => h.elim), .inl rfl⟩
  by_cases h1 : who < 0 ∨ 8 ≤ who
  · exact (do_who w b who k i o n h1).mono fun e w' h => bad 1 e w' (by unfold doErr; rw [if_pos h1]) (by omega) h
  · by_cases h2 : k < 0 ∨ 3 < k
    · exact (do_kind w b who k i o n (by omega) (by omega) h2).mono fun e w' h => bad 32 e w' (by unfold doErr; rw [if_neg h1, if_pos h2]) (by omega) h
    · by_cases h3 : i < 0 ∨ (cs.length : Int) ≤ i
      · exact (do_at w b who k i o n _ _ _ (by omega) (by omega) (by omega) (by omega) M.blk.m0 h3).mono fun e w' h => bad 31 e w' (by unfold doErr; rw [if_neg h1, if_neg h2, if_pos h3]) (by omega) h
      · have he0 : doErr cs who k i = 0 := by unfold doErr; rw [if_neg h1, if_neg h2, if_neg h3]
        obtain ⟨i', rfl⟩ := Int.eq_ofNat_of_zero_le (show 0 ≤ i by omega)
        obtain ⟨who', hw'⟩ : ∃ who' : Fin 8, who = ((who'.val : Nat) : Int) := ⟨⟨who.toNat, by omega⟩, by simp; omega⟩
        subst hw'
        have hi : i' < cs.length := by omega
        have hp : cs[i']? = some (cs.getD i' (0, 0)) := by rw [List.getD_eq_getElem?_getD, List.getElem?_eq_getElem hi]; rfl
        refine (do_ok w b g cap ev cs _ _ _ M who' k i' o n _ (by omega) (by omega) hp hm (fun j => ?_)).mono ?_
        · have := stepsOf_le E j
          omega
        · rintro e w' ⟨he, ev', hM, hk, hev⟩
          have hr' : r = ⟨cs.set i' (becomes (cs.getD i' (0, 0)) k o n).1, E ++ [⟨who'.val, k, i', o, n, cs.getD i' (0, 0), (becomes (cs.getD i' (0, 0)) k o n).2⟩], cs.getD i' (0, 0), (becomes (cs.getD i' (0, 0)) k o n).2, 0⟩ := by
            rw [← hr]; unfold doStep; rw [he0]; rfl
          subst hr'
          refine ⟨he, ev', ?_, hk, hev⟩
          unfold Mm
          simp only
          rw [flatE_append, flatE_one, ← stepsOf_snoc E _ who' rfl, List.length_append]
          exact hM

theorem Mm.far {w w' : World} {b g cap G : Nat} {ev : Value} {cs : List (Int × Int)} {E : List EvD} {t : TypeId} {A : Array Value} (M : Mm w b g cap ev cs E) (hk : Kept (Foot b g ev) w w') (h : Blk w G t A)
    (h1 : t ≠ 65) (h2 : t ≠ 35) (h3 : 57 ≠ t) : Blk w' G t A := by
  refine hk.blk h ?_
  rintro (rfl | rfl | he)
  · exact h.ne_ M.blk h1 rfl
  · obtain ⟨cur, hb, _⟩ := M.row
    exact h.ne_ hb h2 rfl
  · exact own_blk_ne M.evs h h3 he.symm

end Go.Proofs.Ytkinnhdagdkhcaa
