/- Layer 5 (check): small walks: Costs, ends, unless, wrong. -/
import Derived.Test.YtapmechbliofeaaDoorInsD
import Derived.Test.YtapmechbliofeaaDoorCkA
import Derived.Lib.Hide
namespace Go.Proofs.YtapmechbliofeaaDoor
open Go.RowKit

theorem own_cap {w : World} {base size n c : Nat} {e : TypeId} {A : Option Addr} {xs : List Value} (h : w.ownsRow base e size (.slice A n c) n xs) : n ≤ c := by
  rcases h.2 with ⟨hv, h0⟩ | ⟨g, cap, cur, hv, _, _, hn, _⟩
  · omega
  · injection hv with _ _ h3
    omega
theorem own_at {w : World} {base size n c : Nat} {e : TypeId} {A : Option Addr} {xs : List Value} (h : w.ownsRow base e size (.slice A n c) n xs) (hn : 0 < n) : ∃ g, A = some ⟨g, 0, none⟩ ∧ g < w.heap.size ∧ ∀ j u, xs[j]? = some u → w.cell? ⟨g, j, none⟩ = some u := by
  obtain ⟨g, cap, hv, _, hlt⟩ := h.form hn
  have hA : A = some ⟨g, 0, none⟩ := by injection hv
  subst hA
  exact ⟨g, rfl, hlt, fun j u hu => by
    have := h.cells (g := g) rfl j u hu
    rwa [addr_add] at this⟩

set_option maxRecDepth 100000 in
theorem costs_calls (op : Int) (w : World) : Calls Tryd.prog 14 #[.int .i64 op] w fun e w' => e = .returned (.int .i64 (costP op)) ∧ w = w' := by
  by_cases h : op = 10 ∨ op = 13 ∨ op = 14 ∨ op = 15 ∨ op = 16
  · rcases h with rfl | rfl | rfl | rfl | rfl
    all_goals
      go_enter Tryd.func14, Tryd.ntmps14
      go_wp2
      go_ret
      exact ⟨rfl, rfl⟩
  · have n1 : (op == 10) = false := by simp; omega
    have n2 : (op == 13) = false := by simp; omega
    have n3 : (op == 14) = false := by simp; omega
    have n4 : (op == 15) = false := by simp; omega
    have n5 : (op == 16) = false := by simp; omega
    have e : costP op = 0 := by
      unfold costP
      rw [if_neg (by omega), if_neg (by omega), if_neg (by omega)]
    rw [e]
    clear e h
    go_enter Tryd.func14, Tryd.ntmps14
    go_wp2
    go_ret
    exact ⟨rfl, rfl⟩

theorem ends_calls (op : Int) (w : World) : Calls Tryd.prog 22 #[.int .i64 op] w fun e w' => e = .returned (.bool (endsB op)) ∧ w = w' := by
  by_cases h : op = 20 ∨ op = 21
  · rcases h with rfl | rfl
    all_goals
      go_enter Tryd.func22, Tryd.ntmps22
      go_wp2
      go_ret
      exact ⟨rfl, rfl⟩
  · have n1 : (op == 20) = false := by simp; omega
    have n2 : (op == 21) = false := by simp; omega
    have e : endsB op = false := by
      unfold endsB
      rw [decide_eq_false_iff_not]
      omega
    rw [e]
    clear e h
    go_enter Tryd.func22, Tryd.ntmps22
    go_wp2
    go_ret
    exact ⟨rfl, rfl⟩

def orE (b : Bool) (e : Int) : Int := if b then 0 else e
theorem unless_calls (b : Bool) (x : Int) (w : World) : Calls Tryd.prog 27 #[.bool b, .int .i64 x] w fun e w' => e = .returned (.int .i64 (orE b x)) ∧ w = w' := by
  cases b
  all_goals
    go_enter Tryd.func27, Tryd.ntmps27
    go_wp2
    go_ret
    exact ⟨rfl, rfl⟩

/-- What is wrong with a plain one, by its kind. -/
theorem wrongE_of {d : InsD} (hp : plainB d = true) (k n : Nat) :
    (d.op = 8 → wrongE d k n = orE (decide (d.imm < 4)) 1) ∧ (d.op = 11 ∨ d.op = 13 → wrongE d k n = orE (decide (d.imm < 8)) 1) ∧ (d.op = 21 → wrongE d k n = orE (decide (1 ≤ d.imm ∧ d.imm ≤ 255)) 1) ∧
    (d.op = 17 ∨ d.op = 18 → wrongE d k n = orE (decide ((k : Int) < d.imm ∧ d.imm < n)) 24) ∧ (d.op = 19 → wrongE d k n = orE (decide (d.imm ≤ k)) 24) ∧
    (¬ (d.op = 8 ∨ d.op = 11 ∨ d.op = 13 ∨ d.op = 17 ∨ d.op = 18 ∨ d.op = 19 ∨ d.op = 21) → wrongE d k n = 0) := by
  unfold wrongE orE
  rw [if_neg (by simp [hp])]
  refine ⟨fun h => ?_, fun h => ?_, fun h => ?_, fun h => ?_, fun h => ?_, fun h => ?_⟩
  · rw [if_pos h]
    simp only [decide_eq_true_eq]
  · rw [if_neg (by omega), if_pos h]
    simp only [decide_eq_true_eq]
  · rw [if_neg (by omega), if_neg (by omega), if_pos h]
    simp only [decide_eq_true_eq]
  · rw [if_neg (by omega), if_neg (by omega), if_neg (by omega), if_pos h]
    simp only [decide_eq_true_eq]
  · rw [if_neg (by omega), if_neg (by omega), if_neg (by omega), if_neg (by omega), if_pos h]
    simp only [decide_eq_true_eq]
  · rw [if_neg (by omega), if_neg (by omega), if_neg (by omega), if_neg (by omega), if_neg (by omega)]

end Go.Proofs.YtapmechbliofeaaDoor
