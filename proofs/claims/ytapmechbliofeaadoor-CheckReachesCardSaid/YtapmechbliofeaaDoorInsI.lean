/- Layer 3 (instr): the document's Regs, Imm, Plain, Name. -/
import Derived.Test.YtapmechbliofeaaDoorInsC
namespace Go.Proofs.YtapmechbliofeaaDoor
open Go.RowKit


theorem refRegs_calls (op : Int) (w : World) : Calls Tryd.prog 34 #[.int .i64 op] w fun e w' => e = .returned (.int .i64 (regs op)) ∧ w = w' := by
  by_cases h0 : op < 0
  · have e : regs op = 0 := regs_out op (by omega)
    rw [e]
    clear e
    have n1 : (op == 0) = false := by simp; omega
    have n2 : (op == 1) = false := by simp; omega
    have n3 : (op == 8) = false := by simp; omega
    have n4 : (op == 11) = false := by simp; omega
    have n5 : (op == 12) = false := by simp; omega
    have n6 : (op == 13) = false := by simp; omega
    have n7 : (op == 14) = false := by simp; omega
    have n8 : (op == 17) = false := by simp; omega
    have n9 : (op == 21) = false := by simp; omega
    go_enter Tryd.func34, Tryd.ntmps34
    go_wp2
    go_ret
    exact ⟨rfl, rfl⟩
  by_cases h1 : 21 < op
  · have e : regs op = 0 := regs_out op (by omega)
    rw [e]
    clear e h0
    have n0 : ¬ op ≤ 0 := by omega
    have m0 : ¬ op ≤ 19 := by omega
    have m1 : ¬ op ≤ 11 := by omega
    have m2 : ¬ op ≤ 7 := by omega
    have n1 : (op == 0) = false := by simp; omega
    have n2 : (op == 1) = false := by simp; omega
    have n3 : (op == 8) = false := by simp; omega
    have n4 : (op == 11) = false := by simp; omega
    have n5 : (op == 12) = false := by simp; omega
    have n6 : (op == 13) = false := by simp; omega
    have n7 : (op == 14) = false := by simp; omega
    have n8 : (op == 17) = false := by simp; omega
    have n9 : (op == 21) = false := by simp; omega
    go_enter Tryd.func34, Tryd.ntmps34
    go_wp2
    go_ret
    exact ⟨rfl, rfl⟩
  obtain ⟨k, rfl⟩ : ∃ k : Nat, op = k := ⟨op.toNat, by omega⟩
  have hk : k < 22 := by omega
  clear h0 h1
  match k, hk with
  | 0, _ =>
    go_enter Tryd.func34, Tryd.ntmps34
    go_wp2
    go_ret
    exact ⟨rfl, rfl⟩
  | 1, _ =>
    go_enter Tryd.func34, Tryd.ntmps34
    go_wp2
    go_ret
    exact ⟨rfl, rfl⟩
  | 2, _ =>
    go_enter Tryd.func34, Tryd.ntmps34
    go_wp2
    go_ret
    exact ⟨rfl, rfl⟩
  | 3, _ =>
    go_enter Tryd.func34, Tryd.ntmps34
    go_wp2
    go_ret
    exact ⟨rfl, rfl⟩
  | 4, _ =>
    go_enter Tryd.func34, Tryd.ntmps34
    go_wp2
    go_ret
    exact ⟨rfl, rfl⟩
  | 5, _ =>
    go_enter Tryd.func34, Tryd.ntmps34
    go_wp2
    go_ret
    exact ⟨rfl, rfl⟩
  | 6, _ =>
    go_enter Tryd.func34, Tryd.ntmps34
    go_wp2
    go_ret
    exact ⟨rfl, rfl⟩
  | 7, _ =>
    go_enter Tryd.func34, Tryd.ntmps34
    go_wp2
    go_ret
    exact ⟨rfl, rfl⟩
  | 8, _ =>
    go_enter Tryd.func34, Tryd.ntmps34
    go_wp2
    go_ret
    exact ⟨rfl, rfl⟩
  | 9, _ =>
    go_enter Tryd.func34, Tryd.ntmps34
    go_wp2
    go_ret
    exact ⟨rfl, rfl⟩
  | 10, _ =>
    go_enter Tryd.func34, Tryd.ntmps34
    go_wp2
    go_ret
    exact ⟨rfl, rfl⟩
  | 11, _ =>
    go_enter Tryd.func34, Tryd.ntmps34
    go_wp2
    go_ret
    exact ⟨rfl, rfl⟩
  | 12, _ =>
    go_enter Tryd.func34, Tryd.ntmps34
    go_wp2
    go_ret
    exact ⟨rfl, rfl⟩
  | 13, _ =>
    go_enter Tryd.func34, Tryd.ntmps34
    go_wp2
    go_ret
    exact ⟨rfl, rfl⟩
  | 14, _ =>
    go_enter Tryd.func34, Tryd.ntmps34
    go_wp2
    go_ret
    exact ⟨rfl, rfl⟩
  | 15, _ =>
    go_enter Tryd.func34, Tryd.ntmps34
    go_wp2
    go_ret
    exact ⟨rfl, rfl⟩
  | 16, _ =>
    go_enter Tryd.func34, Tryd.ntmps34
    go_wp2
    go_ret
    exact ⟨rfl, rfl⟩
  | 17, _ =>
    go_enter Tryd.func34, Tryd.ntmps34
    go_wp2
    go_ret
    exact ⟨rfl, rfl⟩
  | 18, _ =>
    go_enter Tryd.func34, Tryd.ntmps34
    go_wp2
    go_ret
    exact ⟨rfl, rfl⟩
  | 19, _ =>
    go_enter Tryd.func34, Tryd.ntmps34
    go_wp2
    go_ret
    exact ⟨rfl, rfl⟩
  | 20, _ =>
    go_enter Tryd.func34, Tryd.ntmps34
    go_wp2
    go_ret
    exact ⟨rfl, rfl⟩
  | 21, _ =>
    go_enter Tryd.func34, Tryd.ntmps34
    go_wp2
    go_ret
    exact ⟨rfl, rfl⟩
  | k + 22, hk => exact absurd hk (by omega)

theorem refImm_calls (op : Int) (w : World) : Calls Tryd.prog 35 #[.int .i64 op] w fun e w' => e = .returned (.bool (immB op)) ∧ w = w' := by
  by_cases h0 : op < 0
  · have e : immB op = false := immB_out op (by omega)
    rw [e]
    clear e
    have n1 : (op == 0) = false := by simp; omega
    have n2 : (op == 1) = false := by simp; omega
    have n3 : (op == 8) = false := by simp; omega
    have n4 : (op == 11) = false := by simp; omega
    have n5 : (op == 12) = false := by simp; omega
    have n6 : (op == 13) = false := by simp; omega
    have n7 : (op == 14) = false := by simp; omega
    have n8 : (op == 17) = false := by simp; omega
    have n9 : (op == 21) = false := by simp; omega
    go_enter Tryd.func35, Tryd.ntmps35
    go_wp2
    go_ret
    exact ⟨rfl, rfl⟩
  by_cases h1 : 21 < op
  · have e : immB op = false := immB_out op (by omega)
    rw [e]
    clear e h0
    have n0 : ¬ op ≤ 0 := by omega
    have m0 : ¬ op ≤ 19 := by omega
    have m1 : ¬ op ≤ 11 := by omega
    have m2 : ¬ op ≤ 7 := by omega
    have n1 : (op == 0) = false := by simp; omega
    have n2 : (op == 1) = false := by simp; omega
    have n3 : (op == 8) = false := by simp; omega
    have n4 : (op == 11) = false := by simp; omega
    have n5 : (op == 12) = false := by simp; omega
    have n6 : (op == 13) = false := by simp; omega
    have n7 : (op == 14) = false := by simp; omega
    have n8 : (op == 17) = false := by simp; omega
    have n9 : (op == 21) = false := by simp; omega
    go_enter Tryd.func35, Tryd.ntmps35
    go_wp2
    go_ret
    exact ⟨rfl, rfl⟩
  obtain ⟨k, rfl⟩ : ∃ k : Nat, op = k := ⟨op.toNat, by omega⟩
  have hk : k < 22 := by omega
  clear h0 h1
  match k, hk with
  | 0, _ =>
    go_enter Tryd.func35, Tryd.ntmps35
    go_wp2
    go_ret
    exact ⟨rfl, rfl⟩
  | 1, _ =>
    go_enter Tryd.func35, Tryd.ntmps35
    go_wp2
    go_ret
    exact ⟨rfl, rfl⟩
  | 2, _ =>
    go_enter Tryd.func35, Tryd.ntmps35
    go_wp2
    go_ret
    exact ⟨rfl, rfl⟩
  | 3, _ =>
    go_enter Tryd.func35, Tryd.ntmps35
    go_wp2
    go_ret
    exact ⟨rfl, rfl⟩
  | 4, _ =>
    go_enter Tryd.func35, Tryd.ntmps35
    go_wp2
    go_ret
    exact ⟨rfl, rfl⟩
  | 5, _ =>
    go_enter Tryd.func35, Tryd.ntmps35
    go_wp2
    go_ret
    exact ⟨rfl, rfl⟩
  | 6, _ =>
    go_enter Tryd.func35, Tryd.ntmps35
    go_wp2
    go_ret
    exact ⟨rfl, rfl⟩
  | 7, _ =>
    go_enter Tryd.func35, Tryd.ntmps35
    go_wp2
    go_ret
    exact ⟨rfl, rfl⟩
  | 8, _ =>
    go_enter Tryd.func35, Tryd.ntmps35
    go_wp2
    go_ret
    exact ⟨rfl, rfl⟩
  | 9, _ =>
    go_enter Tryd.func35, Tryd.ntmps35
    go_wp2
    go_ret
    exact ⟨rfl, rfl⟩
  | 10, _ =>
    go_enter Tryd.func35, Tryd.ntmps35
    go_wp2
    go_ret
    exact ⟨rfl, rfl⟩
  | 11, _ =>
    go_enter Tryd.func35, Tryd.ntmps35
    go_wp2
    go_ret
    exact ⟨rfl, rfl⟩
  | 12, _ =>
    go_enter Tryd.func35, Tryd.ntmps35
    go_wp2
    go_ret
    exact ⟨rfl, rfl⟩
  | 13, _ =>
    go_enter Tryd.func35, Tryd.ntmps35
    go_wp2
    go_ret
    exact ⟨rfl, rfl⟩
  | 14, _ =>
    go_enter Tryd.func35, Tryd.ntmps35
    go_wp2
    go_ret
    exact ⟨rfl, rfl⟩
  | 15, _ =>
    go_enter Tryd.func35, Tryd.ntmps35
    go_wp2
    go_ret
    exact ⟨rfl, rfl⟩
  | 16, _ =>
    go_enter Tryd.func35, Tryd.ntmps35
    go_wp2
    go_ret
    exact ⟨rfl, rfl⟩
  | 17, _ =>
    go_enter Tryd.func35, Tryd.ntmps35
    go_wp2
    go_ret
    exact ⟨rfl, rfl⟩
  | 18, _ =>
    go_enter Tryd.func35, Tryd.ntmps35
    go_wp2
    go_ret
    exact ⟨rfl, rfl⟩
  | 19, _ =>
    go_enter Tryd.func35, Tryd.ntmps35
    go_wp2
    go_ret
    exact ⟨rfl, rfl⟩
  | 20, _ =>
    go_enter Tryd.func35, Tryd.ntmps35
    go_wp2
    go_ret
    exact ⟨rfl, rfl⟩
  | 21, _ =>
    go_enter Tryd.func35, Tryd.ntmps35
    go_wp2
    go_ret
    exact ⟨rfl, rfl⟩
  | k + 22, hk => exact absurd hk (by omega)

end Go.Proofs.YtapmechbliofeaaDoor
