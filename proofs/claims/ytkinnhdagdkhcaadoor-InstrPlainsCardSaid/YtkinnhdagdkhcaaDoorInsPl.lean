/- Layer 3 (instr): the walk of InstrPlains. -/
import Derived.Test.YtkinnhdagdkhcaaDoorInsL
namespace Go.Proofs.YtkinnhdagdkhcaaDoor
open Go.RowKit

theorem and3_bound (x : Int) : 0 ≤ bits BinOp.and IntKind.i64 x 3 ∧ bits BinOp.and IntKind.i64 x 3 ≤ 3 := by
  have h : (BitVec.ofInt 64 x &&& BitVec.ofInt 64 3).toNat ≤ 3 := by
    rw [BitVec.toNat_and]
    exact Nat.and_le_right
  have e : bits BinOp.and IntKind.i64 x 3 = IntKind.i64.wrap ((BitVec.ofInt 64 x &&& BitVec.ofInt 64 3).toNat : Int) := rfl
  rw [e, IntKind.wrap_i64]
  omega

theorem plain_a {op a b c imm : Int} (h : plainB ⟨op, a, b, c, imm⟩ = true) (hn : 0 < regs op) (r : Int) : plainB ⟨op, r, b, c, imm⟩ = decide (0 ≤ r ∧ r < 16) := by
  unfold plainB at h ⊢
  simp only [Bool.and_eq_true] at h ⊢
  obtain ⟨h0, _, h2, h3, h4⟩ := h
  rw [h0, h2, h3, h4, decide_eq_true hn]
  simp [fitsB]
theorem plain_b {op a b c imm : Int} (h : plainB ⟨op, a, b, c, imm⟩ = true) (hn : 1 < regs op) (r : Int) : plainB ⟨op, a, r, c, imm⟩ = decide (0 ≤ r ∧ r < 16) := by
  unfold plainB at h ⊢
  simp only [Bool.and_eq_true] at h ⊢
  obtain ⟨h0, h1, _, h3, h4⟩ := h
  rw [h0, h1, h3, h4, decide_eq_true hn]
  simp [fitsB]
theorem plain_c {op a b c imm : Int} (h : plainB ⟨op, a, b, c, imm⟩ = true) (hn : 2 < regs op) (r : Int) : plainB ⟨op, a, b, r, imm⟩ = decide (0 ≤ r ∧ r < 16) := by
  unfold plainB at h ⊢
  simp only [Bool.and_eq_true] at h ⊢
  obtain ⟨h0, h1, h2, _, h4⟩ := h
  rw [h0, h1, h2, h4, decide_eq_true hn]
  simp [fitsB]

set_option maxRecDepth 100000 in
set_option maxHeartbeats 4000000 in
theorem plains_walk (d : InsD) (reg which : Int) (w : World) (T : Tabs w) :
    Calls Tryd.prog 6 #[insV d, .int .i64 reg, .int .i64 which] w fun e w' => e = .returned (.bool true) ∧ Kept (fun _ => False) w w' := by
  have HT := Lib.hid T
  clear T
  have HPL := Lib.hid (fun (x : InsD) (W : World) (k : Kept (fun _ => False) w W) => plain_calls x W (HT.out.kept k))
  have HRP := Lib.hid (fun W => refPlain_calls d W)
  obtain ⟨op, a, b, c, imm⟩ := d
  have hB0 := Lib.hid (Blk.new w 47 #[.int .i64 op, .int .i64 a, .int .i64 b, .int .i64 c, .int .u64 imm])
  simp only [insV]
  go_enter Tryd.func6, Tryd.ntmps6
  go_wp2_with fail
  refine (alive_calls _ (HT.out.kept ((Kept.refl _ _).alloc _))).mono ?_
  rintro e w1 ⟨rfl, K1⟩
  have B1 := K1.blk hB0.out (fun h => h)
  have HB1 := Lib.hid B1
  have HK1 := Lib.hid (((Kept.refl (fun _ => False) w).alloc _).trans K1)
  have c0 : _ = some (Value.int .i64 op) := B1.cell 0
  have c1 : _ = some (Value.int .i64 a) := B1.cell 1
  have c2 : _ = some (Value.int .i64 b) := B1.cell 2
  have c3 : _ = some (Value.int .i64 c) := B1.cell 3
  have c4 : _ = some (Value.int .u64 imm) := B1.cell 4
  clear K1 B1
  go_wp2_with fail
  refine (HRP.out _).mono ?_
  rintro e w2 ⟨rfl, K2⟩
  have B2 := K2.blk HB1.out (fun h => h)
  have HB2 := Lib.hid B2
  have HK2 := Lib.hid (HK1.out.trans K2)
  have d0 : _ = some (Value.int .i64 op) := B2.cell 0
  have d1 : _ = some (Value.int .i64 a) := B2.cell 1
  have d2 : _ = some (Value.int .i64 b) := B2.cell 2
  have d3 : _ = some (Value.int .i64 c) := B2.cell 3
  have d4 : _ = some (Value.int .u64 imm) := B2.cell 4
  clear K2 B2 c0 c1 c2 c3 c4
  cases hpl : plainB ⟨op, a, b, c, imm⟩
  · have HPB := Lib.hid hpl
    clear hpl
    go_wp2_with fail
    refine (HPL.out ⟨op, a, b, c, imm⟩ _ HK2.out).mono ?_
    rintro e w3 ⟨rfl, K3⟩
    rw [HPB.out]
    have B3 := K3.blk HB2.out (fun h => h)
    have e0 : _ = some (Value.int .i64 op) := B3.cell 0
    have HK3 := Lib.hid (HK2.out.trans K3)
    clear K3 B3 d0 d1 d2 d3 d4
    go_wp2_with fail
    refine (refRegs_calls op _).mono ?_
    rintro e w' ⟨rfl, rfl⟩
    go_wp2_with fail
    go_ret
    exact ⟨rfl, HK3.out⟩
  · have HPB := Lib.hid hpl
    clear hpl
    go_wp2_with fail
    refine (HPL.out ⟨op, a, b, c, imm⟩ _ HK2.out).mono ?_
    rintro e w3 ⟨rfl, K3⟩
    rw [HPB.out]
    have B3 := K3.blk HB2.out (fun h => h)
    have e0 : _ = some (Value.int .i64 op) := B3.cell 0
    have e1 : _ = some (Value.int .i64 a) := B3.cell 1
    have e2 : _ = some (Value.int .i64 b) := B3.cell 2
    have e3 : _ = some (Value.int .i64 c) := B3.cell 3
    have e4 : _ = some (Value.int .u64 imm) := B3.cell 4
    have HK3 := Lib.hid (HK2.out.trans K3)
    clear K3 B3 d0 d1 d2 d3 d4
    obtain ⟨r0, r3⟩ := regs_range op
    obtain ⟨q0, q3⟩ := and3_bound which
    have hRG := refRegs_calls op w3
    have HQA := Lib.hid (fun h r => plain_a HPB.out (c := c) h r)
    have HQB := Lib.hid (fun h r => plain_b HPB.out h r)
    have HQC := Lib.hid (fun h r => plain_c HPB.out h r)
    have KS1 : Kept (fun _ => False) w (w3.alloc (.cells #[.int .i64 op, .int .i64 reg, .int .i64 b, .int .i64 c, .int .u64 imm] 47)) := HK3.out.alloc _
    have HS1 := Lib.hid KS1
    have HA1 := Lib.hid (HPL.out ⟨op, reg, b, c, imm⟩ _ KS1)
    clear KS1
    have KS2 : Kept (fun _ => False) w (w3.alloc (.cells #[.int .i64 op, .int .i64 a, .int .i64 reg, .int .i64 c, .int .u64 imm] 47)) := HK3.out.alloc _
    have HS2 := Lib.hid KS2
    have HA2 := Lib.hid (HPL.out ⟨op, a, reg, c, imm⟩ _ KS2)
    clear KS2
    have KS3 : Kept (fun _ => False) w (w3.alloc (.cells #[.int .i64 op, .int .i64 a, .int .i64 b, .int .i64 reg, .int .u64 imm] 47)) := HK3.out.alloc _
    have HS3 := Lib.hid KS3
    have HA3 := Lib.hid (HPL.out ⟨op, a, b, reg, imm⟩ _ KS3)
    clear KS3
    simp only [insV] at HA1 HA2 HA3
    obtain ⟨n, hn⟩ : ∃ n, regs op = n := ⟨_, rfl⟩
    rw [hn] at HQA HQB HQC hRG r0 r3
    obtain rfl | rfl | rfl | rfl : n = 0 ∨ n = 1 ∨ n = 2 ∨ n = 3 := by omega
    · clear hn
      go_wp2_with fail
      refine hRG.mono ?_
      rintro e w' ⟨rfl, rfl⟩
      go_wp2_with fail
      go_ret
      exact ⟨rfl, HK3.out⟩
    all_goals
      clear hn r0 r3
      obtain hq | hq | hq | hq : bits BinOp.and IntKind.i64 which 3 = 0 ∨ bits BinOp.and IntKind.i64 which 3 = 1 ∨ bits BinOp.and IntKind.i64 which 3 = 2 ∨ bits BinOp.and IntKind.i64 which 3 = 3 := by omega
      all_goals
        clear q0 q3
        go_wp2_with fail
        refine hRG.mono ?_
        rintro e w' ⟨rfl, rfl⟩
        clear hRG
        go_wp2_with fail
        (first
          | ((with_reducible refine HA1.out.mono ?_); rintro e w4 ⟨rfl, K4⟩; have KF := HS1.out.trans K4; clear K4; rw [HQA.out (by decide) reg])
          | ((with_reducible refine HA2.out.mono ?_); rintro e w4 ⟨rfl, K4⟩; have KF := HS2.out.trans K4; clear K4; rw [HQB.out (by decide) reg])
          | ((with_reducible refine HA3.out.mono ?_); rintro e w4 ⟨rfl, K4⟩; have KF := HS3.out.trans K4; clear K4; rw [HQC.out (by decide) reg]))
        clear hq
        by_cases g0 : 0 ≤ reg
        · by_cases g1 : reg < 16
          · rw [decide_eq_true ⟨g0, g1⟩]
            go_wp2_with fail
            go_ret
            exact ⟨rfl, KF⟩
          · rw [decide_eq_false (fun h => g1 h.2)]
            have g2 : decide (reg < 16) = false := decide_eq_false g1
            have g1' : 16 ≤ reg := by omega
            go_wp2_with fail
            go_ret
            exact ⟨rfl, KF⟩
        · rw [decide_eq_false (fun h => g0 h.1)]
          have g0' : reg < 0 := by omega
          go_wp2_with fail
          go_ret
          exact ⟨rfl, KF⟩

end Go.Proofs.YtkinnhdagdkhcaaDoor
