/- Layer 5 (check): the document's Writes, Goes, Forth, One. -/
import Derived.Test.YtapmechbliofeaaDoorCkJ
import Derived.Test.YtapmechbliofeaaDoorInsJ
namespace Go.Proofs.YtapmechbliofeaaDoor
open Go.RowKit

set_option maxRecDepth 100000 in
theorem refWrites_calls (op : Int) (w : World) : Calls Tryd.prog 15 #[.int .i64 op] w fun e w' => e = .returned (.int .i64 (costP op)) ∧ w = w' := by
  by_cases h : op = 10 ∨ op = 13 ∨ op = 14 ∨ op = 15 ∨ op = 16
  · rcases h with rfl | rfl | rfl | rfl | rfl
    all_goals
      go_enter Tryd.func15, Tryd.ntmps15
      go_wp2
      go_ret
      exact ⟨rfl, rfl⟩
  · have n1 : (op == 10) = false := by simp; omega
    have n2 : (op == 13) = false := by simp; omega
    have n3 : (op == 14) = false := by simp; omega
    have n4 : (op == 15) = false := by simp; omega
    have n5 : (op == 16) = false := by simp; omega
    have e : costP op = 0 := by
      unfold costP
      rw [if_neg (by omega), if_neg (by omega), if_neg (by omega)]
    rw [e]
    clear e h
    go_enter Tryd.func15, Tryd.ntmps15
    go_wp2
    go_ret
    exact ⟨rfl, rfl⟩

set_option maxRecDepth 100000 in
theorem refGoes_yes (op : Int) (h0 : 17 ≤ op) (h1 : op ≤ 19) (w : World) : Calls Tryd.prog 29 #[.int .i64 op] w fun e w' => e = .returned (.bool true) ∧ w = w' := by
  go_enter Tryd.func29, Tryd.ntmps29
  go_wp2
  go_ret
  exact ⟨by simp, rfl⟩
set_option maxRecDepth 100000 in
theorem refGoes_no (op : Int) (h : op < 17 ∨ 19 < op) (w : World) : Calls Tryd.prog 29 #[.int .i64 op] w fun e w' => e = .returned (.bool false) ∧ w = w' := by
  rcases h with h | h
  all_goals
    go_enter Tryd.func29, Tryd.ntmps29
    go_wp2
    go_ret
    exact ⟨by first | rfl | (simp; done) | (simp; omega), rfl⟩

set_option maxRecDepth 100000 in
theorem refForth_back (k j : Int) (w : World) : Calls Tryd.prog 30 #[.int .i64 19, .int .i64 k, .int .i64 j] w fun e w' => e = .returned (.bool (decide (j ≤ k))) ∧ w = w' := by
  by_cases h : j ≤ k
  · go_enter Tryd.func30, Tryd.ntmps30
    go_wp2
    go_ret
    exact ⟨by simp [h], rfl⟩
  · have h' : k < j := by omega
    go_enter Tryd.func30, Tryd.ntmps30
    go_wp2
    go_ret
    exact ⟨by simp [h'], rfl⟩
set_option maxRecDepth 100000 in
theorem refForth_on (op k j : Int) (ho : op = 17 ∨ op = 18) (w : World) : Calls Tryd.prog 30 #[.int .i64 op, .int .i64 k, .int .i64 j] w fun e w' => e = .returned (.bool (decide (k < j))) ∧ w = w' := by
  rcases ho with rfl | rfl
  all_goals
    go_enter Tryd.func30, Tryd.ntmps30
    go_wp2
    go_ret
    exact ⟨by simp, rfl⟩

end Go.Proofs.YtapmechbliofeaaDoor
