/- Layer 10, mathematics: a pool that was read from slots, numbers, and limbo, none of a later transaction. -/
import Derived.Test.YthjkodjpopcjaaaPoJ
namespace Go.Proofs.Ythjkodjpopcjaaa
theorem readG_cons {c : CfgD} {p : PoD} {o : OutD} {l : List OutD} {k : Nat} (h0 : p.st = 0) : readG c p (o :: l) k = readG c (p.tell c o.val o.seq) l (k + 1) := by
  show (if p.st ≠ 0 then _ else _) = _
  rw [if_neg (by simp [h0])]
def slotP (S : List Int) : PoD := ⟨5, 0, S.length, 0, S, [], false, 0, 0, 0, 0⟩
def topP (S : List Int) : PoD := ⟨5, 1, 0, 0, S, [], false, 0, 0, 0, 0⟩
def limP (S : List Int) (t : Int) : PoD := ⟨5, 2, 0, 0, S, [], false, t, 0, t, 0⟩
def limboP (S D : List Int) (t l : Int) : PoD := ⟨5, 3, D.length, 0, S, D, false, t, l, t, l⟩
def doneP (S D : List Int) (t l : Int) (stage : Int) : PoD := ⟨5, stage, 0, 1, S, D, false, t, l, t, l⟩
theorem slot_tell {c : CfgD} {S : List Int} (v : Int) (hl : (S.length : Int) + 1 ≤ c.t) : (slotP S).tell c v 5 = if (S.length : Int) + 1 < c.t then slotP (S ++ [v]) else topP (S ++ [v]) := by
  have e : (slotP S).tell c v 5 = ({ slotP S with nm := S ++ [v], nt := 0, nl := 0 } : PoD).goOn c := by unfold PoD.tell; rfl
  rw [e]
  unfold PoD.goOn
  have e1 : ({ slotP S with nm := S ++ [v], nt := 0, nl := 0 } : PoD).cells c = c.t := rfl
  have e2 : ({ slotP S with nm := S ++ [v], nt := 0, nl := 0, stage := (slotP S).stage + 1, pos := 0 } : PoD).cells c = 1 := rfl
  have e3 : ({ slotP S with nm := S ++ [v], nt := 0, nl := 0 } : PoD).pos = S.length := rfl
  rw [e1, e3]
  by_cases h : (S.length : Int) + 1 < c.t
  · rw [if_pos h, if_pos h]
    show (⟨5, 0, (S.length : Int) + 1, 0, S ++ [v], [], false, 0, 0, 0, 0⟩ : PoD) = ⟨5, 0, ((S ++ [v]).length : Nat), 0, S ++ [v], [], false, 0, 0, 0, 0⟩
    have : (((S ++ [v]).length : Nat) : Int) = (S.length : Int) + 1 := by simp
    rw [this]
  · rw [if_neg h, if_neg h]
    exact if_neg (by rw [show ({ slotP S with nm := S ++ [v], nt := 0, nl := 0, stage := (slotP S).stage + 1, pos := 0 } : PoD).cells c = 1 from rfl]; decide)
theorem read_slots {c : CfgD} (R : List OutD) : ∀ (T S : List Int) (k : Nat), T ≠ [] → ((S.length + T.length : Nat) : Int) = c.t → readG c (slotP S) (T.map outO ++ R) k = readG c (topP (S ++ T)) R (k + T.length)
  | [], _, _, h, _ => absurd rfl h
  | [v], S, k, _, hl => by
    show readG c (slotP S) (outO v :: R) k = _
    rw [readG_cons rfl]
    show readG c ((slotP S).tell c v 5) R (k + 1) = _
    rw [slot_tell v (by simp at hl; omega), if_neg (by simp at hl; omega)]
    rfl
  | v :: u :: T, S, k, _, hl => by
    show readG c (slotP S) (outO v :: ((u :: T).map outO ++ R)) k = _
    rw [readG_cons rfl]
    show readG c ((slotP S).tell c v 5) ((u :: T).map outO ++ R) (k + 1) = _
    rw [slot_tell v (by simp at hl; omega), if_pos (by simp at hl; omega), read_slots R (u :: T) (S ++ [v]) (k + 1) (by simp) (by simp at hl ⊢; omega)]
    simp [Nat.add_comm, Nat.add_left_comm]
theorem top_tell {c : CfgD} {S : List Int} (v : Int) : (topP S).tell c v 5 = limP S (min v c.b) := by
  have e : (topP S).tell c v 5 = ({ topP S with wt := min v c.b, nt := min v c.b, nl := 0 } : PoD).goOn c := by unfold PoD.tell; rfl
  rw [e]
  unfold PoD.goOn
  rw [if_neg (by show ¬ ((0 : Int) + 1 < 1); decide)]
  exact if_neg (by show ¬ ((1 : Int) = 0); decide)
theorem lim_tell {c : CfgD} {S : List Int} {t : Int} (v : Int) : (limP S t).tell c v 5 = if min v c.lim = 0 then doneP S [] t 0 3 else limboP S [] t (min v c.lim) := by
  have e : (limP S t).tell c v 5 = ({ limP S t with wl := min v c.lim, nt := t, nl := min v c.lim } : PoD).goOn c := by unfold PoD.tell; rfl
  rw [e]
  unfold PoD.goOn
  rw [if_neg (by show ¬ ((0 : Int) + 1 < 1); decide)]
  have e2 : ({ limP S t with wl := min v c.lim, nt := t, nl := min v c.lim, stage := (limP S t).stage + 1, pos := 0 } : PoD).cells c = min v c.lim := rfl
  by_cases h : min v c.lim = 0
  · rw [if_pos h]
    refine (if_pos (e2.trans h)).trans ?_
    show (⟨5, 3, 0, 1, S, [], false, t, min v c.lim, t, min v c.lim⟩ : PoD) = _
    rw [h]
    rfl
  · rw [if_neg h]
    exact if_neg (fun he => h (e2.symm.trans he))
theorem limbo_tell {c : CfgD} {S D : List Int} {t l : Int} (v : Int) (hl : (D.length : Int) + 1 ≤ l) : (limboP S D t l).tell c v 5 = if (D.length : Int) + 1 < l then limboP S (D ++ [v]) t l else doneP S (D ++ [v]) t l 4 := by
  have e : (limboP S D t l).tell c v 5 = ({ limboP S D t l with lm := D ++ [v] } : PoD).goOn c := by unfold PoD.tell; rfl
  rw [e]
  unfold PoD.goOn
  have e1 : ({ limboP S D t l with lm := D ++ [v] } : PoD).cells c = l := rfl
  have e3 : ({ limboP S D t l with lm := D ++ [v] } : PoD).pos = D.length := rfl
  rw [e1, e3]
  by_cases h : (D.length : Int) + 1 < l
  · rw [if_pos h, if_pos h]
    show (⟨5, 3, (D.length : Int) + 1, 0, S, D ++ [v], false, t, l, t, l⟩ : PoD) = ⟨5, 3, ((D ++ [v]).length : Nat), 0, S, D ++ [v], false, t, l, t, l⟩
    have : (((D ++ [v]).length : Nat) : Int) = (D.length : Int) + 1 := by simp
    rw [this]
  · rw [if_neg h, if_neg h]
    exact if_pos rfl
theorem read_limbo {c : CfgD} {S : List Int} {t : Int} : ∀ (T D : List Int) (k : Nat), T ≠ [] → readG c (limboP S D t ((D.length + T.length : Nat) : Int)) (T.map outO) k = (doneP S (D ++ T) t ((D.length + T.length : Nat) : Int) 4, k + T.length)
  | [], _, _, h => absurd rfl h
  | [v], D, k, _ => by
    show readG c (limboP S D t _) [outO v] k = _
    rw [readG_cons rfl]
    show readG c ((limboP S D t _).tell c v 5) [] (k + 1) = _
    rw [limbo_tell v (by simp), if_neg (by simp)]
    rfl
  | v :: u :: T, D, k, _ => by
    show readG c (limboP S D t _) (outO v :: (u :: T).map outO) k = _
    rw [readG_cons rfl]
    show readG c ((limboP S D t _).tell c v 5) ((u :: T).map outO) (k + 1) = _
    rw [limbo_tell v (by simp; omega), if_pos (by simp; omega)]
    have ih := read_limbo (c := c) (S := S) (t := t) (u :: T) (D ++ [v]) (k + 1) (by simp)
    have e : (((D ++ [v]).length + (u :: T).length : Nat) : Int) = ((D.length + (v :: u :: T).length : Nat) : Int) := by simp; omega
    rw [e] at ih
    rw [ih]
    simp [Nat.add_comm, Nat.add_left_comm]
/-- A pool that was read. -/
theorem read_all {c : CfgD} {S D : List Int} {t : Int} (hS : (S.length : Int) = c.t) (ht : 1 ≤ c.t) (hD : (D.length : Int) ≤ c.lim) :
    readG c (p0 5) ((S ++ [t, (D.length : Int)] ++ D).map outO) 0 = (doneP S D (min t c.b) D.length (if D = [] then 3 else 4), S.length + 2 + D.length) := by
  rw [List.map_append, List.map_append, List.append_assoc]
  have h0 : p0 5 = slotP [] := rfl
  rw [h0, read_slots _ S [] 0 (by rintro rfl; simp at hS; omega) (by simpa using hS)]
  show readG c (topP S) (outO t :: outO (D.length : Int) :: D.map outO) (0 + S.length) = _
  rw [readG_cons rfl]
  show readG c ((topP S).tell c t 5) _ _ = _
  rw [top_tell, readG_cons rfl]
  show readG c ((limP S (min t c.b)).tell c (D.length : Int) 5) _ _ = _
  rw [lim_tell]
  have hm : min (D.length : Int) c.lim = D.length := by omega
  rw [hm]
  by_cases h : D = []
  · subst h
    rw [if_pos rfl, if_pos (show ((([] : List Int).length : Nat) : Int) = 0 from rfl)]
    show (doneP S [] (min t c.b) 0 3, 0 + S.length + 1 + 1) = (doneP S [] (min t c.b) ((0 : Nat) : Int) 3, S.length + 2 + 0)
    rw [show 0 + S.length + 1 + 1 = S.length + 2 + 0 by omega]
    rfl
  · have hp : ¬ ((D.length : Int) = 0) := fun e => h (List.eq_nil_of_length_eq_zero (by omega))
    rw [if_neg hp, if_neg h]
    have := read_limbo (c := c) (S := S) (t := min t c.b) D [] (0 + S.length + 1 + 1) h
    simp only [List.length_nil, Nat.zero_add, List.nil_append] at this ⊢
    rw [this]
end Go.Proofs.Ythjkodjpopcjaaa
