/- Layer 2 (glyph): small walks: the runes' kinds, the document's bytes' kinds. -/
import Derived.Test.YtonihjijienigaaDoorBase
import Derived.Lib.Hide
namespace Go.Proofs.YtonihjijienigaaDoor
open Go.RowKit

def letterB (r : Int) : Bool := decide ((97 ≤ r ∧ r ≤ 122) ∨ (65 ≤ r ∧ r ≤ 90) ∨ r = 95)
def digitB (r : Int) : Bool := decide (48 ≤ r ∧ r ≤ 57)
def beginsB (r : Int) : Bool := letterB r || digitB r
def goesOnB (r : Int) : Bool := beginsB r || decide (r = 46)
def blankB (r : Int) : Bool := decide (r = 32 ∨ r = 9 ∨ r = 13)

theorem isLetter_calls (r : Int) (w : World) : Calls Tryd.prog 34 #[.int .i32 r] w fun e w' => e = .returned (.bool (letterB r)) ∧ w = w' := by
  rcases (show r < 65 ∨ (65 ≤ r ∧ r ≤ 90) ∨ (90 < r ∧ r < 95) ∨ r = 95 ∨ r = 96 ∨ (97 ≤ r ∧ r ≤ 122) ∨ 122 < r by omega) with h | ⟨h, h'⟩ | ⟨h, h'⟩ | h | h | ⟨h, h'⟩ | h
  all_goals
    first
      | (have hv : letterB r = true := decide_eq_true (by omega); rw [hv]; clear hv)
      | (have hv : letterB r = false := decide_eq_false (by omega); rw [hv]; clear hv)
    have n95 : (r == 95) = decide (r = 95) := rfl
    first
      | (rw [decide_eq_true (by omega)] at n95)
      | (rw [decide_eq_false (by omega)] at n95)
    try have q1 : ¬ r ≤ 90 := by omega
    try have q2 : ¬ r ≤ 122 := by omega
    go_enter Tryd.func34, Tryd.ntmps34
    go_wp2
    go_ret
    exact ⟨rfl, rfl⟩
theorem isDigit_calls (r : Int) (w : World) : Calls Tryd.prog 32 #[.int .i32 r] w fun e w' => e = .returned (.bool (digitB r)) ∧ w = w' := by
  rcases (show r < 48 ∨ (48 ≤ r ∧ r ≤ 57) ∨ 57 < r by omega) with h | ⟨h, h'⟩ | h
  all_goals
    first
      | (have hv : digitB r = true := decide_eq_true (by omega); rw [hv]; clear hv)
      | (have hv : digitB r = false := decide_eq_false (by omega); rw [hv]; clear hv)
    try have q1 : ¬ r ≤ 57 := by omega
    go_enter Tryd.func32, Tryd.ntmps32
    go_wp2
    go_ret
    exact ⟨rfl, rfl⟩
theorem isBlank_calls (r : Int) (w : World) : Calls Tryd.prog 31 #[.int .i32 r] w fun e w' => e = .returned (.bool (blankB r)) ∧ w = w' := by
  have n1 : (r == 32) = decide (r = 32) := rfl
  have n2 : (r == 9) = decide (r = 9) := rfl
  have n3 : (r == 13) = decide (r = 13) := rfl
  rcases (show r = 32 ∨ r = 9 ∨ r = 13 ∨ (r ≠ 32 ∧ r ≠ 9 ∧ r ≠ 13) by omega) with h | h | h | ⟨h, h', h''⟩
  all_goals
    first
      | (have hv : blankB r = true := decide_eq_true (by omega); rw [hv]; clear hv)
      | (have hv : blankB r = false := decide_eq_false (by omega); rw [hv]; clear hv)
    first | (rw [decide_eq_true (by omega)] at n1) | (rw [decide_eq_false (by omega)] at n1)
    first | (rw [decide_eq_true (by omega)] at n2) | (rw [decide_eq_false (by omega)] at n2)
    first | (rw [decide_eq_true (by omega)] at n3) | (rw [decide_eq_false (by omega)] at n3)
    go_enter Tryd.func31, Tryd.ntmps31
    go_wp2
    go_ret
    exact ⟨rfl, rfl⟩
theorem begins_calls (r : Int) (w : World) : Calls Tryd.prog 30 #[.int .i32 r] w fun e w' => e = .returned (.bool (beginsB r)) ∧ w = w' := by
  have hL := isLetter_calls r
  have hD := isDigit_calls r
  unfold beginsB
  generalize letterB r = x at *
  generalize digitB r = y at *
  cases x <;> cases y
  all_goals
    have HL := Lib.hid hL
    have HD := Lib.hid hD
    clear hL hD
    go_enter Tryd.func30, Tryd.ntmps30
    go_wp2_with (first | (go_at_call 34; refine (HL.out _).mono ?_; rintro e w' ⟨rfl, rfl⟩) | (go_at_call 32; refine (HD.out _).mono ?_; rintro e w' ⟨rfl, rfl⟩))
    go_ret
    exact ⟨rfl, rfl⟩
theorem goesOn_calls (r : Int) (w : World) : Calls Tryd.prog 29 #[.int .i32 r] w fun e w' => e = .returned (.bool (goesOnB r)) ∧ w = w' := by
  have hB := begins_calls r
  unfold goesOnB
  have n1 : (r == 46) = decide (r = 46) := rfl
  generalize decide (r = 46) = d at *
  generalize beginsB r = x at *
  cases x <;> cases d
  all_goals
    have HB := Lib.hid hB
    clear hB
    go_enter Tryd.func29, Tryd.ntmps29
    go_wp2_with (go_at_call 30; refine (HB.out _).mono ?_; rintro e w' ⟨rfl, rfl⟩)
    go_ret
    exact ⟨rfl, rfl⟩

end Go.Proofs.YtonihjijienigaaDoor
