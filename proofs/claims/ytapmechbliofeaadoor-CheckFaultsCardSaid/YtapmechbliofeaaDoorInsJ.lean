/- Layer 3 (instr): the document's Plain. -/
import Derived.Test.YtapmechbliofeaaDoorInsI
namespace Go.Proofs.YtapmechbliofeaaDoor
open Go.RowKit

theorem fits_out (r : Int) (u : Bool) (h : ¬ (0 ≤ r ∧ r < 16)) : fitsB r u = false := by
  unfold fitsB
  split
  · rw [decide_eq_false_iff_not]; exact h
  · rw [decide_eq_false_iff_not]; omega

theorem fits_in (r : Int) (u : Bool) (h0 : 0 ≤ r) (h1 : r < 16) : fitsB r u = (u || r == 0) := by
  cases u
  · rfl
  · exact decide_eq_true ⟨h0, h1⟩

set_option maxRecDepth 100000 in
set_option maxHeartbeats 4000000 in
theorem refPlain_calls (d : InsD) (w : World) : Calls Tryd.prog 28 #[insV d] w fun e w' => e = .returned (.bool (plainB d)) ∧ Kept (fun _ => False) w w' := by
  have hR := refRegs_calls d.op
  have hI := refImm_calls d.op
  have HP := Lib.hid (show plainB d = (kindB d.op && (fitsB d.a (decide (0 < regs d.op)) && (fitsB d.b (decide (1 < regs d.op)) && (fitsB d.c (decide (2 < regs d.op)) && (immB d.op || decide (d.imm = 0)))))) from rfl)
  obtain ⟨n0, n3⟩ := regs_range d.op
  generalize regs d.op = n at *
  generalize immB d.op = ui at *
  generalize plainB d = p at *
  obtain ⟨op, a, b, c, imm⟩ := d
  simp only [insV] at *
  have HR := Lib.hid hR
  have HI := Lib.hid hI
  clear hR hI
  by_cases hop : 0 ≤ op ∧ op ≤ 21
  · obtain ⟨o0, o1⟩ := hop
    by_cases ha : 0 ≤ a ∧ a ≤ 15
    · obtain ⟨a0, a1⟩ := ha
      by_cases hb : 0 ≤ b ∧ b ≤ 15
      · obtain ⟨b0, b1⟩ := hb
        by_cases hc : 0 ≤ c ∧ c ≤ 15
        · obtain ⟨c0, c1⟩ := hc
          have q0 : op < 22 := by omega
          have q1 : a < 16 := by omega
          have q2 : b < 16 := by omega
          have q3 : c < 16 := by omega
          have hp : p = ((decide (0 < n) || a == 0) && ((decide (1 < n) || b == 0) && ((decide (2 < n) || c == 0) && (ui || imm == 0)))) := by
            rw [HP.out]
            have e1 : fitsB a (decide (0 < n)) = (decide (0 < n) || a == 0) := fits_in a _ a0 q1
            have e2 : fitsB b (decide (1 < n)) = (decide (1 < n) || b == 0) := fits_in b _ b0 q2
            have e3 : fitsB c (decide (2 < n)) = (decide (2 < n) || c == 0) := fits_in c _ c0 q3
            have e4 : kindB op = true := by unfold kindB; exact decide_eq_true ⟨o0, q0⟩
            rw [e1, e2, e3, e4, Bool.true_and]
            rfl
          rw [hp]
          clear hp HP
          obtain rfl | rfl | rfl | rfl : n = 0 ∨ n = 1 ∨ n = 2 ∨ n = 3 := by omega
          all_goals
            go_enter Tryd.func28, Tryd.ntmps28
            go_wp2_with (first | (go_at_call 34; refine (HR.out _).mono ?_; rintro e w' ⟨rfl, rfl⟩) | (go_at_call 35; refine (HI.out _).mono ?_; rintro e w' ⟨rfl, rfl⟩))
          all_goals
            go_ret
            refine ⟨congrArg (fun x => Ending.returned (Value.bool x)) ?_, by repeat' (first | exact Kept.refl _ _ | apply Kept.alloc)⟩
            simp_all
        · rcases (show c < 0 ∨ 15 < c by omega) with hx | hx
          all_goals
            have hp : p = false := by
              rw [HP.out]
              have e : fitsB c (decide (2 < n)) = false := fits_out c _ (by omega)
              rw [e]; simp
            rw [hp]
            clear hp HP
            go_enter Tryd.func28, Tryd.ntmps28
            go_wp2_with fail
            go_ret
            exact ⟨rfl, (Kept.refl _ _).alloc _⟩
      · rcases (show b < 0 ∨ 15 < b by omega) with hx | hx
        all_goals
          have hp : p = false := by
            rw [HP.out]
            have e : fitsB b (decide (1 < n)) = false := fits_out b _ (by omega)
            rw [e]; simp
          rw [hp]
          clear hp HP
          go_enter Tryd.func28, Tryd.ntmps28
          go_wp2_with fail
          go_ret
          exact ⟨rfl, (Kept.refl _ _).alloc _⟩
    · rcases (show a < 0 ∨ 15 < a by omega) with hx | hx
      all_goals
        have hp : p = false := by
          rw [HP.out]
          have e : fitsB a (decide (0 < n)) = false := fits_out a _ (by omega)
          rw [e]; simp
        rw [hp]
        clear hp HP
        go_enter Tryd.func28, Tryd.ntmps28
        go_wp2_with fail
        go_ret
        exact ⟨rfl, (Kept.refl _ _).alloc _⟩
  · rcases (show op < 0 ∨ 21 < op by omega) with hx | hx
    all_goals
      have hp : p = false := by
        rw [HP.out]
        have e : kindB op = false := by unfold kindB; rw [decide_eq_false_iff_not]; omega
        rw [e]; simp
      rw [hp]
      clear hp HP
      go_enter Tryd.func28, Tryd.ntmps28
      go_wp2_with fail
      go_ret
      exact ⟨rfl, (Kept.refl _ _).alloc _⟩

end Go.Proofs.YtapmechbliofeaaDoor
