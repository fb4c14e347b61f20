/- Layer 3 (instr): Plain, and the document's: Name, Regs, Imm, Plain. -/
import Derived.Test.YtapmechbliofeaaDoorInsB
import Derived.Lib.Hide
namespace Go.Proofs.YtapmechbliofeaaDoor
open Go.RowKit

theorem and_false_right (a : Bool) : (a && false) = false := by cases a <;> rfl

set_option maxRecDepth 100000 in
set_option maxHeartbeats 1000000 in
theorem plain_calls (d : InsD) (w : World) (T : Tabs w) : Calls Tryd.prog 26 #[insV d] w fun e w' => e = .returned (.bool (plainB d)) ∧ Kept (fun _ => False) w w' := by
  have hU := uses_calls d.op
  have HT := Lib.hid T
  have hK := isKind_calls d.op
  have hA := fits_calls d.a (decide (0 < regs d.op))
  have hB := fits_calls d.b (decide (1 < regs d.op))
  have hC := fits_calls d.c (decide (2 < regs d.op))
  clear T
  unfold usesV at hU
  unfold plainB
  generalize decide (0 < regs d.op) = ua at *
  generalize decide (1 < regs d.op) = ub at *
  generalize decide (2 < regs d.op) = uc at *
  generalize immB d.op = ui at *
  obtain ⟨op, a, b, c, imm⟩ := d
  simp only [insV] at *
  generalize kindB op = xk at *
  generalize fitsB a ua = xa at *
  generalize fitsB b ub = xb at *
  generalize fitsB c uc = xc at *
  have HK := Lib.hid hK
  have HA := Lib.hid hA
  have HB := Lib.hid hB
  have HC := Lib.hid hC
  clear hK hA hB hC
  go_enter Tryd.func26, Tryd.ntmps26
  go_wp2_with fail
  refine (hU _ (HT.out.kept ((Kept.refl _ _).alloc _))).mono ?_
  rintro e w1 ⟨rfl, K1⟩
  have B1 := K1.blk (Blk.new w 38 #[.int .i64 op, .int .i64 a, .int .i64 b, .int .i64 c, .int .u64 imm]) (fun h => h)
  have c0 : _ = some (Value.int .i64 op) := B1.cell 0
  have c1 : _ = some (Value.int .i64 a) := B1.cell 1
  have c2 : _ = some (Value.int .i64 b) := B1.cell 2
  have c3 : _ = some (Value.int .i64 c) := B1.cell 3
  have c4 : _ = some (Value.int .u64 imm) := B1.cell 4
  have HK1 := Lib.hid K1
  clear K1 B1 hU
  rcases (inferInstance : Decidable (imm = 0)) with hi | hi
  · have hi' : (imm == 0) = false := by simpa using hi
    cases xk <;> cases xa <;> cases xb <;> cases xc <;> cases ui
    all_goals
      go_wp2_with (first
        | (go_at_call 32; refine (HK.out _).mono ?_; rintro e w' ⟨rfl, rfl⟩)
        | (with_reducible refine (HA.out _).mono ?_; rintro e w' ⟨rfl, rfl⟩)
        | (with_reducible refine (HB.out _).mono ?_; rintro e w' ⟨rfl, rfl⟩)
        | (with_reducible refine (HC.out _).mono ?_; rintro e w' ⟨rfl, rfl⟩))
    all_goals (go_ret; first | exact ⟨rfl, ((Kept.refl _ _).alloc _).trans HK1.out⟩ | exact ⟨congrArg (fun x => Ending.returned (Value.bool x)) (decide_eq_false hi).symm, ((Kept.refl _ _).alloc _).trans HK1.out⟩)
  · subst hi
    cases xk <;> cases xa <;> cases xb <;> cases xc <;> cases ui
    all_goals
      go_wp2_with (first
        | (go_at_call 32; refine (HK.out _).mono ?_; rintro e w' ⟨rfl, rfl⟩)
        | (with_reducible refine (HA.out _).mono ?_; rintro e w' ⟨rfl, rfl⟩)
        | (with_reducible refine (HB.out _).mono ?_; rintro e w' ⟨rfl, rfl⟩)
        | (with_reducible refine (HC.out _).mono ?_; rintro e w' ⟨rfl, rfl⟩))
    all_goals (go_ret; exact ⟨rfl, ((Kept.refl _ _).alloc _).trans HK1.out⟩)

end Go.Proofs.YtapmechbliofeaaDoor
