/- Layer 3 (instr): Uses. -/
import Derived.Test.YtapmechbliofeaaDoorInsA
namespace Go.Proofs.YtapmechbliofeaaDoor
open Go.RowKit


set_option maxRecDepth 100000 in
theorem uses_ai (k : Nat) (hk : k < 22) (w : World) (hc : w.cell? ⟨0, k, none⟩ = some (.string ⟨#[97, 105]⟩)) :
    Calls Tryd.prog 31 #[.int .i64 (k : Int)] w fun e w' => e = .returned (.tuple #[.bool true, .bool false, .bool false, .bool true]) ∧ Kept (fun _ => False) w w' := by
  have hb : kindB (k : Int) = true := by unfold kindB; exact decide_eq_true ⟨by omega, by omega⟩
  have hK := isKind_calls (k : Int) w
  rw [hb] at hK
  clear hb
  go_enter Tryd.func31, Tryd.ntmps31
  go_wp2_with fail
  refine hK.mono ?_
  rintro e w' ⟨rfl, rfl⟩
  go_wp2_with fail
  have n0 : ∀ ty, (Instr.next (.pointer (some ⟨w.heap.size, 0, none⟩)) true ty).run Tryd.prog (w.iter ⟨#[97, 105]⟩ 0) = .ok (.tuple #[.bool true, .int .i64 0, .int .i32 97]) (w.iter ⟨#[97, 105]⟩ 1) := fun ty => run_next_ascii w _ 0 ty (by decide) (by decide)
  have n1 : ∀ ty, (Instr.next (.pointer (some ⟨w.heap.size, 0, none⟩)) true ty).run Tryd.prog (w.iter ⟨#[97, 105]⟩ 1) = .ok (.tuple #[.bool true, .int .i64 1, .int .i32 105]) (w.iter ⟨#[97, 105]⟩ 2) := fun ty => run_next_ascii w _ 1 ty (by decide) (by decide)
  have n2 : ∀ ty, (Instr.next (.pointer (some ⟨w.heap.size, 0, none⟩)) true ty).run Tryd.prog (w.iter ⟨#[97, 105]⟩ 2) = .ok (.tuple #[.bool false]) (w.iter ⟨#[97, 105]⟩ 2) := fun ty => run_next_end w _ 2 ty (by decide)
  refine wp_loop_rounds 3 ?_
  rw [rounds_succ]
  go_wp2
  rw [rounds_succ]
  go_wp2
  rw [rounds_succ]
  go_wp2
  exact bodyPost_ret (v := .tuple #[.bool true, .bool false, .bool false, .bool true]) (by simp [results, Tryd.results31, go_sem]) rfl ⟨rfl, (Kept.refl _ _).alloc _⟩

set_option maxRecDepth 100000 in
theorem uses_ab (k : Nat) (hk : k < 22) (w : World) (hc : w.cell? ⟨0, k, none⟩ = some (.string ⟨#[97, 98]⟩)) :
    Calls Tryd.prog 31 #[.int .i64 (k : Int)] w fun e w' => e = .returned (.tuple #[.bool true, .bool true, .bool false, .bool false]) ∧ Kept (fun _ => False) w w' := by
  have hb : kindB (k : Int) = true := by unfold kindB; exact decide_eq_true ⟨by omega, by omega⟩
  have hK := isKind_calls (k : Int) w
  rw [hb] at hK
  clear hb
  go_enter Tryd.func31, Tryd.ntmps31
  go_wp2_with fail
  refine hK.mono ?_
  rintro e w' ⟨rfl, rfl⟩
  go_wp2_with fail
  have n0 : ∀ ty, (Instr.next (.pointer (some ⟨w.heap.size, 0, none⟩)) true ty).run Tryd.prog (w.iter ⟨#[97, 98]⟩ 0) = .ok (.tuple #[.bool true, .int .i64 0, .int .i32 97]) (w.iter ⟨#[97, 98]⟩ 1) := fun ty => run_next_ascii w _ 0 ty (by decide) (by decide)
  have n1 : ∀ ty, (Instr.next (.pointer (some ⟨w.heap.size, 0, none⟩)) true ty).run Tryd.prog (w.iter ⟨#[97, 98]⟩ 1) = .ok (.tuple #[.bool true, .int .i64 1, .int .i32 98]) (w.iter ⟨#[97, 98]⟩ 2) := fun ty => run_next_ascii w _ 1 ty (by decide) (by decide)
  have n2 : ∀ ty, (Instr.next (.pointer (some ⟨w.heap.size, 0, none⟩)) true ty).run Tryd.prog (w.iter ⟨#[97, 98]⟩ 2) = .ok (.tuple #[.bool false]) (w.iter ⟨#[97, 98]⟩ 2) := fun ty => run_next_end w _ 2 ty (by decide)
  refine wp_loop_rounds 3 ?_
  rw [rounds_succ]
  go_wp2
  rw [rounds_succ]
  go_wp2
  rw [rounds_succ]
  go_wp2
  exact bodyPost_ret (v := .tuple #[.bool true, .bool true, .bool false, .bool false]) (by simp [results, Tryd.results31, go_sem]) rfl ⟨rfl, (Kept.refl _ _).alloc _⟩

set_option maxRecDepth 100000 in
theorem uses_abc (k : Nat) (hk : k < 22) (w : World) (hc : w.cell? ⟨0, k, none⟩ = some (.string ⟨#[97, 98, 99]⟩)) :
    Calls Tryd.prog 31 #[.int .i64 (k : Int)] w fun e w' => e = .returned (.tuple #[.bool true, .bool true, .bool true, .bool false]) ∧ Kept (fun _ => False) w w' := by
  have hb : kindB (k : Int) = true := by unfold kindB; exact decide_eq_true ⟨by omega, by omega⟩
  have hK := isKind_calls (k : Int) w
  rw [hb] at hK
  clear hb
  go_enter Tryd.func31, Tryd.ntmps31
  go_wp2_with fail
  refine hK.mono ?_
  rintro e w' ⟨rfl, rfl⟩
  go_wp2_with fail
  have n0 : ∀ ty, (Instr.next (.pointer (some ⟨w.heap.size, 0, none⟩)) true ty).run Tryd.prog (w.iter ⟨#[97, 98, 99]⟩ 0) = .ok (.tuple #[.bool true, .int .i64 0, .int .i32 97]) (w.iter ⟨#[97, 98, 99]⟩ 1) := fun ty => run_next_ascii w _ 0 ty (by decide) (by decide)
  have n1 : ∀ ty, (Instr.next (.pointer (some ⟨w.heap.size, 0, none⟩)) true ty).run Tryd.prog (w.iter ⟨#[97, 98, 99]⟩ 1) = .ok (.tuple #[.bool true, .int .i64 1, .int .i32 98]) (w.iter ⟨#[97, 98, 99]⟩ 2) := fun ty => run_next_ascii w _ 1 ty (by decide) (by decide)
  have n2 : ∀ ty, (Instr.next (.pointer (some ⟨w.heap.size, 0, none⟩)) true ty).run Tryd.prog (w.iter ⟨#[97, 98, 99]⟩ 2) = .ok (.tuple #[.bool true, .int .i64 2, .int .i32 99]) (w.iter ⟨#[97, 98, 99]⟩ 3) := fun ty => run_next_ascii w _ 2 ty (by decide) (by decide)
  have n3 : ∀ ty, (Instr.next (.pointer (some ⟨w.heap.size, 0, none⟩)) true ty).run Tryd.prog (w.iter ⟨#[97, 98, 99]⟩ 3) = .ok (.tuple #[.bool false]) (w.iter ⟨#[97, 98, 99]⟩ 3) := fun ty => run_next_end w _ 3 ty (by decide)
  refine wp_loop_rounds 4 ?_
  rw [rounds_succ]
  go_wp2
  rw [rounds_succ]
  go_wp2
  rw [rounds_succ]
  go_wp2
  rw [rounds_succ]
  go_wp2
  exact bodyPost_ret (v := .tuple #[.bool true, .bool true, .bool true, .bool false]) (by simp [results, Tryd.results31, go_sem]) rfl ⟨rfl, (Kept.refl _ _).alloc _⟩

set_option maxRecDepth 100000 in
theorem uses_abi (k : Nat) (hk : k < 22) (w : World) (hc : w.cell? ⟨0, k, none⟩ = some (.string ⟨#[97, 98, 105]⟩)) :
    Calls Tryd.prog 31 #[.int .i64 (k : Int)] w fun e w' => e = .returned (.tuple #[.bool true, .bool true, .bool false, .bool true]) ∧ Kept (fun _ => False) w w' := by
  have hb : kindB (k : Int) = true := by unfold kindB; exact decide_eq_true ⟨by omega, by omega⟩
  have hK := isKind_calls (k : Int) w
  rw [hb] at hK
  clear hb
  go_enter Tryd.func31, Tryd.ntmps31
  go_wp2_with fail
  refine hK.mono ?_
  rintro e w' ⟨rfl, rfl⟩
  go_wp2_with fail
  have n0 : ∀ ty, (Instr.next (.pointer (some ⟨w.heap.size, 0, none⟩)) true ty).run Tryd.prog (w.iter ⟨#[97, 98, 105]⟩ 0) = .ok (.tuple #[.bool true, .int .i64 0, .int .i32 97]) (w.iter ⟨#[97, 98, 105]⟩ 1) := fun ty => run_next_ascii w _ 0 ty (by decide) (by decide)
  have n1 : ∀ ty, (Instr.next (.pointer (some ⟨w.heap.size, 0, none⟩)) true ty).run Tryd.prog (w.iter ⟨#[97, 98, 105]⟩ 1) = .ok (.tuple #[.bool true, .int .i64 1, .int .i32 98]) (w.iter ⟨#[97, 98, 105]⟩ 2) := fun ty => run_next_ascii w _ 1 ty (by decide) (by decide)
  have n2 : ∀ ty, (Instr.next (.pointer (some ⟨w.heap.size, 0, none⟩)) true ty).run Tryd.prog (w.iter ⟨#[97, 98, 105]⟩ 2) = .ok (.tuple #[.bool true, .int .i64 2, .int .i32 105]) (w.iter ⟨#[97, 98, 105]⟩ 3) := fun ty => run_next_ascii w _ 2 ty (by decide) (by decide)
  have n3 : ∀ ty, (Instr.next (.pointer (some ⟨w.heap.size, 0, none⟩)) true ty).run Tryd.prog (w.iter ⟨#[97, 98, 105]⟩ 3) = .ok (.tuple #[.bool false]) (w.iter ⟨#[97, 98, 105]⟩ 3) := fun ty => run_next_end w _ 3 ty (by decide)
  refine wp_loop_rounds 4 ?_
  rw [rounds_succ]
  go_wp2
  rw [rounds_succ]
  go_wp2
  rw [rounds_succ]
  go_wp2
  rw [rounds_succ]
  go_wp2
  exact bodyPost_ret (v := .tuple #[.bool true, .bool true, .bool false, .bool true]) (by simp [results, Tryd.results31, go_sem]) rfl ⟨rfl, (Kept.refl _ _).alloc _⟩

set_option maxRecDepth 100000 in
theorem uses_a (k : Nat) (hk : k < 22) (w : World) (hc : w.cell? ⟨0, k, none⟩ = some (.string ⟨#[97]⟩)) :
    Calls Tryd.prog 31 #[.int .i64 (k : Int)] w fun e w' => e = .returned (.tuple #[.bool true, .bool false, .bool false, .bool false]) ∧ Kept (fun _ => False) w w' := by
  have hb : kindB (k : Int) = true := by unfold kindB; exact decide_eq_true ⟨by omega, by omega⟩
  have hK := isKind_calls (k : Int) w
  rw [hb] at hK
  clear hb
  go_enter Tryd.func31, Tryd.ntmps31
  go_wp2_with fail
  refine hK.mono ?_
  rintro e w' ⟨rfl, rfl⟩
  go_wp2_with fail
  have n0 : ∀ ty, (Instr.next (.pointer (some ⟨w.heap.size, 0, none⟩)) true ty).run Tryd.prog (w.iter ⟨#[97]⟩ 0) = .ok (.tuple #[.bool true, .int .i64 0, .int .i32 97]) (w.iter ⟨#[97]⟩ 1) := fun ty => run_next_ascii w _ 0 ty (by decide) (by decide)
  have n1 : ∀ ty, (Instr.next (.pointer (some ⟨w.heap.size, 0, none⟩)) true ty).run Tryd.prog (w.iter ⟨#[97]⟩ 1) = .ok (.tuple #[.bool false]) (w.iter ⟨#[97]⟩ 1) := fun ty => run_next_end w _ 1 ty (by decide)
  refine wp_loop_rounds 2 ?_
  rw [rounds_succ]
  go_wp2
  rw [rounds_succ]
  go_wp2
  exact bodyPost_ret (v := .tuple #[.bool true, .bool false, .bool false, .bool false]) (by simp [results, Tryd.results31, go_sem]) rfl ⟨rfl, (Kept.refl _ _).alloc _⟩

set_option maxRecDepth 100000 in
theorem uses_i (k : Nat) (hk : k < 22) (w : World) (hc : w.cell? ⟨0, k, none⟩ = some (.string ⟨#[105]⟩)) :
    Calls Tryd.prog 31 #[.int .i64 (k : Int)] w fun e w' => e = .returned (.tuple #[.bool false, .bool false, .bool false, .bool true]) ∧ Kept (fun _ => False) w w' := by
  have hb : kindB (k : Int) = true := by unfold kindB; exact decide_eq_true ⟨by omega, by omega⟩
  have hK := isKind_calls (k : Int) w
  rw [hb] at hK
  clear hb
  go_enter Tryd.func31, Tryd.ntmps31
  go_wp2_with fail
  refine hK.mono ?_
  rintro e w' ⟨rfl, rfl⟩
  go_wp2_with fail
  have n0 : ∀ ty, (Instr.next (.pointer (some ⟨w.heap.size, 0, none⟩)) true ty).run Tryd.prog (w.iter ⟨#[105]⟩ 0) = .ok (.tuple #[.bool true, .int .i64 0, .int .i32 105]) (w.iter ⟨#[105]⟩ 1) := fun ty => run_next_ascii w _ 0 ty (by decide) (by decide)
  have n1 : ∀ ty, (Instr.next (.pointer (some ⟨w.heap.size, 0, none⟩)) true ty).run Tryd.prog (w.iter ⟨#[105]⟩ 1) = .ok (.tuple #[.bool false]) (w.iter ⟨#[105]⟩ 1) := fun ty => run_next_end w _ 1 ty (by decide)
  refine wp_loop_rounds 2 ?_
  rw [rounds_succ]
  go_wp2
  rw [rounds_succ]
  go_wp2
  exact bodyPost_ret (v := .tuple #[.bool false, .bool false, .bool false, .bool true]) (by simp [results, Tryd.results31, go_sem]) rfl ⟨rfl, (Kept.refl _ _).alloc _⟩

/-- What fields a kind has. -/
def usesV (op : Int) : Value := .tuple #[.bool (decide (0 < regs op)), .bool (decide (1 < regs op)), .bool (decide (2 < regs op)), .bool (immB op)]
theorem uses_calls (op : Int) (w : World) (T : Tabs w) : Calls Tryd.prog 31 #[.int .i64 op] w fun e w' => e = .returned (usesV op) ∧ Kept (fun _ => False) w w' := by
  by_cases h : 0 ≤ op ∧ op < 22
  · obtain ⟨k, rfl⟩ : ∃ k : Nat, op = k := ⟨op.toNat, by omega⟩
    have hk : k < 22 := by omega
    have hc := T.fields k hk
    clear h T
    match k, hk with
    | 0, hk => exact uses_ai 0 hk w hc
    | 1, hk => exact uses_ab 1 hk w hc
    | 2, hk => exact uses_abc 2 hk w hc
    | 3, hk => exact uses_abc 3 hk w hc
    | 4, hk => exact uses_abc 4 hk w hc
    | 5, hk => exact uses_abc 5 hk w hc
    | 6, hk => exact uses_abc 6 hk w hc
    | 7, hk => exact uses_abc 7 hk w hc
    | 8, hk => exact uses_ai 8 hk w hc
    | 9, hk => exact uses_ab 9 hk w hc
    | 10, hk => exact uses_ab 10 hk w hc
    | 11, hk => exact uses_abi 11 hk w hc
    | 12, hk => exact uses_abc 12 hk w hc
    | 13, hk => exact uses_abi 13 hk w hc
    | 14, hk => exact uses_abc 14 hk w hc
    | 15, hk => exact uses_a 15 hk w hc
    | 16, hk => exact uses_a 16 hk w hc
    | 17, hk => exact uses_i 17 hk w hc
    | 18, hk => exact uses_ai 18 hk w hc
    | 19, hk => exact uses_ai 19 hk w hc
    | 20, hk => exact uses_a 20 hk w hc
    | 21, hk => exact uses_i 21 hk w hc
    | k + 22, hk => exact absurd hk (by omega)
  · have e : usesV op = .tuple #[.bool false, .bool false, .bool false, .bool false] := by
      unfold usesV
      rw [regs_out op h, immB_out op h]
      rfl
    rw [e]
    exact uses_no op h w

end Go.Proofs.YtapmechbliofeaaDoor
