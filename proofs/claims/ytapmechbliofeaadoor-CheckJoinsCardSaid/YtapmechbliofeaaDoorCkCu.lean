/- Layer 5 (check): CheckCuts, as plain mathematics. -/
import Derived.Test.YtapmechbliofeaaDoorCkA
namespace Go.Proofs.YtapmechbliofeaaDoor

def retD : InsD := ⟨20, 0, 0, 0, 0⟩
def movD : InsD := ⟨1, 0, 0, 0, 0⟩
/-- An instruction that is right in a longer program is right in a shorter one, unless it goes behind. -/
theorem wrongE_less {d : InsD} {k n m : Nat} (h : wrongE d k n = 0) : wrongE d k m = 0 ↔ ((d.op = 17 ∨ d.op = 18) → d.imm < m) := by
  constructor
  · intro h' ho
    exact ((wrongE_goal h').1 ho).2
  · intro hg
    have hp := wrongE_plain h
    obtain ⟨g1, _⟩ := wrongE_goal h
    by_cases ho : d.op = 17 ∨ d.op = 18
    · have := hg ho
      have := g1 ho
      unfold wrongE
      rw [if_neg (by simp [hp]), if_neg (by omega), if_neg (by omega), if_neg (by omega), if_pos ho, if_pos (by omega)]
    · unfold wrongE at h ⊢
      rw [if_neg (by simp [hp])] at h ⊢
      by_cases h8 : d.op = 8
      · rw [if_pos h8] at h ⊢
        exact h
      rw [if_neg h8] at h ⊢
      by_cases h11 : d.op = 11 ∨ d.op = 13
      · rw [if_pos h11] at h ⊢
        exact h
      rw [if_neg h11] at h ⊢
      by_cases h21 : d.op = 21
      · rw [if_pos h21] at h ⊢
        exact h
      rw [if_neg h21, if_neg ho] at h ⊢
      exact h
theorem wrongE_more {d : InsD} {k n m : Nat} (h : wrongE d k n = 0) (hm : n ≤ m) : wrongE d k m = 0 :=
  (wrongE_less h).2 fun ho => by
    have := ((wrongE_goal h).1 ho).2
    omega

/-- Does nobody of the first t go to the last one? -/
def nobody (l : List InsD) (t : Nat) : Bool := (l.take t).all fun d => !(decide (d.op = 17 ∨ d.op = 18) && decide (d.imm = ((l.length - 1 : Nat) : Int)))
def cutB (l : List InsD) : Bool := (decide (1 < l.length) && endsB (lastOp (l.take (l.length - 1)))) && nobody l (l.length - 1)
theorem wrongAt_take {l : List InsD} {j m : Nat} (hj : j < m) (hm : m ≤ l.length) : wrongAt (l.take m) j = wrongE (l[j]'(by omega)) j m := by
  rw [wrongAt_eq (by rw [List.length_take]; omega)]
  congr 1
  · simp
  · rw [List.length_take]; omega
theorem cut_right {l : List InsD} (h : RightP l) : rightB (l.take (l.length - 1)) = cutB l := by
  have hpos := h.pos
  have hlen : (l.take (l.length - 1)).length = l.length - 1 := by rw [List.length_take]; omega
  apply Bool.eq_iff_iff.2
  rw [rightB_iff]
  unfold cutB
  simp only [Bool.and_eq_true, decide_eq_true_eq]
  have key : ∀ (j : Nat) (hj : j < l.length - 1), (wrongAt (l.take (l.length - 1)) j = 0 ↔ ((l[j].op = 17 ∨ l[j].op = 18) → l[j].imm < ((l.length - 1 : Nat) : Int))) := fun j hj => by
    rw [wrongAt_take hj (by omega)]
    have := h.clean j (by omega)
    rw [wrongAt_eq (by omega)] at this
    exact wrongE_less this
  have hno : nobody l (l.length - 1) = true ↔ ∀ (j : Nat) (hj : j < l.length - 1), ((l[j].op = 17 ∨ l[j].op = 18) → l[j].imm < ((l.length - 1 : Nat) : Int)) := by
    unfold nobody
    rw [List.all_eq_true]
    constructor
    · intro ha j hj ho
      have hmem : l[j] ∈ l.take (l.length - 1) := by
        rw [List.mem_iff_getElem]
        exact ⟨j, by rw [hlen]; exact hj, by simp⟩
      have h1 := ha _ hmem
      rw [decide_eq_true ho] at h1
      simp only [Bool.true_and, Bool.not_eq_true', decide_eq_false_iff_not] at h1
      have hcl := h.clean j (by omega)
      rw [wrongAt_eq (by omega)] at hcl
      have := ((wrongE_goal hcl).1 ho).2
      omega
    · intro ha d hd
      rw [List.mem_iff_getElem] at hd
      obtain ⟨j, hj, rfl⟩ := hd
      rw [hlen] at hj
      have h1 := ha j hj
      simp only [List.getElem_take]
      by_cases ho : l[j].op = 17 ∨ l[j].op = 18
      · have := h1 ho
        rw [decide_eq_true ho, decide_eq_false (by omega)]
        rfl
      · rw [decide_eq_false ho]
        rfl
  constructor
  · rintro ⟨p, _, c, e⟩
    rw [hlen] at p c
    exact ⟨⟨by omega, e⟩, hno.2 (fun j hj => (key j hj).1 (c j hj))⟩
  · rintro ⟨⟨p, e⟩, no⟩
    have := h.le
    exact ⟨by rw [hlen]; omega, by rw [hlen]; omega, fun j hj => by rw [hlen] at hj; exact (key j hj).2 (hno.1 no j hj), e⟩

theorem lastOp_snoc (l : List InsD) (d : InsD) : lastOp (l ++ [d]) = d.op := by
  unfold lastOp
  rw [List.length_append, List.getElem?_append_right (by simp)]
  simp
theorem more_right {l : List InsD} (h : RightP l) (hl : l.length ≤ 40) : rightB (l ++ [retD]) = true := by
  rw [rightB_iff]
  have hlen : (l ++ [retD]).length = l.length + 1 := by simp
  refine ⟨by rw [hlen]; omega, by rw [hlen]; omega, fun j hj => ?_, by rw [lastOp_snoc]; decide⟩
  rw [hlen] at hj
  rw [wrongAt_eq (by rw [hlen]; exact hj)]
  rcases Nat.lt_or_ge j l.length with h' | h'
  · rw [List.getElem_append_left h']
    have := h.clean j h'
    rw [wrongAt_eq h'] at this
    exact wrongE_more this (by omega)
  · rw [List.getElem_append_right h']
    simp [retD, wrongE, plainB, kindB, fitsB, regs, immB]
theorem more_wrong (l : List InsD) : rightB (l ++ [movD]) = false := by
  cases hr : rightB (l ++ [movD])
  · rfl
  · have := ((rightB_iff _).1 hr).ends
    rw [lastOp_snoc] at this
    cases this

end Go.Proofs.YtapmechbliofeaaDoor
