/- Layer 5 (check): wrong. -/
import Derived.Test.YtapmechbliofeaaDoorCkB
namespace Go.Proofs.YtapmechbliofeaaDoor
open Go.RowKit

theorem decide_of (p q : Prop) [Decidable p] [Decidable q] (h : p ↔ q) : decide p = decide q := decide_eq_decide.2 h

set_option maxRecDepth 100000 in
set_option maxHeartbeats 4000000 in
theorem wrong_calls (d : InsD) (k n : Nat) (w : World) (T : Tabs w) (i0 : 0 ≤ d.imm) (i1 : d.imm < 18446744073709551616) (hk : k < 300) (hn : n < 300) :
    Calls Tryd.prog 21 #[insV d, .int .i64 (k : Int), .int .i64 (n : Int)] w fun e w' => e = .returned (.int .i64 (wrongE d k n)) ∧ Kept (fun _ => False) w w' := by
  have hP := plain_calls d (w.alloc (.cells #[.int .i64 d.op, .int .i64 d.a, .int .i64 d.b, .int .i64 d.c, .int .u64 d.imm] 38)) (T.kept ((Kept.refl _ _).alloc _))
  clear T
  cases hp : plainB d
  · have e : wrongE d k n = 30 := by unfold wrongE; rw [if_pos hp]
    rw [hp] at hP
    rw [e]
    clear e hp
    obtain ⟨op, a, b, c, imm⟩ := d
    simp only [insV] at *
    have HP := Lib.hid hP
    clear hP
    go_enter Tryd.func21, Tryd.ntmps21
    go_wp2_with fail
    refine HP.out.mono ?_
    rintro e w1 ⟨rfl, K1⟩
    go_wp2_with fail
    go_ret
    exact ⟨rfl, ((Kept.refl _ _).alloc _).trans K1⟩
  · obtain ⟨h8, h11, h21, h17, h19, h0⟩ := wrongE_of hp k n
    obtain ⟨⟨o0, o1⟩, _⟩ := plain_bounds hp
    rw [hp] at hP
    clear hp
    obtain ⟨op, a, b, c, imm⟩ := d
    simp only [insV] at *
    have HP := Lib.hid hP
    have hB0 := Blk.new w 38 #[.int .i64 op, .int .i64 a, .int .i64 b, .int .i64 c, .int .u64 imm]
    have HB0 := Lib.hid hB0
    clear hP hB0
    generalize wrongE ⟨op, a, b, c, imm⟩ k n = E at *
    by_cases c8 : op = 8
    · have e := h8 c8
      subst c8
      subst e
      clear h8 h11 h21 h17 h19 h0 o0 o1
      go_enter Tryd.func21, Tryd.ntmps21
      go_wp2_with fail
      refine HP.out.mono ?_
      rintro e w1 ⟨rfl, K1⟩
      have B1 := K1.blk HB0.out (fun h => h)
      have c0 : _ = some (Value.int .i64 8) := B1.cell 0
      have c4 : _ = some (Value.int .u64 imm) := B1.cell 4
      have HK := Lib.hid (((Kept.refl (fun _ => False) _).alloc _).trans K1)
      clear B1 K1
      go_wp2_with fail
      refine (unless_calls _ _ _).mono ?_
      rintro e w' ⟨rfl, rfl⟩
      go_wp2_with fail
      go_ret
      exact ⟨rfl, HK.out⟩
    by_cases c11 : op = 11 ∨ op = 13
    · have e := h11 c11
      subst e
      clear h8 h11 h21 h17 h19 h0 o0 o1 c8
      rcases c11 with rfl | rfl
      all_goals
        go_enter Tryd.func21, Tryd.ntmps21
        go_wp2_with fail
        refine HP.out.mono ?_
        rintro e w1 ⟨rfl, K1⟩
        have B1 := K1.blk HB0.out (fun h => h)
        have c0 : _ = some (Value.int .i64 _) := B1.cell 0
        have c4 : _ = some (Value.int .u64 imm) := B1.cell 4
        have HK := Lib.hid (((Kept.refl (fun _ => False) _).alloc _).trans K1)
        clear B1 K1
        go_wp2_with fail
        refine (unless_calls _ _ _).mono ?_
        rintro e w' ⟨rfl, rfl⟩
        go_wp2_with fail
        go_ret
        exact ⟨rfl, HK.out⟩
    by_cases c21 : op = 21
    · have e := h21 c21
      subst c21
      subst e
      clear h8 h11 h21 h17 h19 h0 o0 o1 c8 c11
      by_cases g1 : 1 ≤ imm
      · have e : decide (1 ≤ imm ∧ imm ≤ 255) = decide (imm ≤ 255) := decide_of _ _ (by omega)
        rw [e]
        clear e
        go_enter Tryd.func21, Tryd.ntmps21
        go_wp2_with fail
        refine HP.out.mono ?_
        rintro e w1 ⟨rfl, K1⟩
        have B1 := K1.blk HB0.out (fun h => h)
        have c0 : _ = some (Value.int .i64 21) := B1.cell 0
        have c4 : _ = some (Value.int .u64 imm) := B1.cell 4
        have HK := Lib.hid (((Kept.refl (fun _ => False) _).alloc _).trans K1)
        clear B1 K1
        go_wp2_with fail
        refine (unless_calls _ _ _).mono ?_
        rintro e w' ⟨rfl, rfl⟩
        go_wp2_with fail
        go_ret
        exact ⟨rfl, HK.out⟩
      · have g2 : imm < 1 := by omega
        have g3 : decide (1 ≤ imm) = false := decide_eq_false g1
        have e : decide (1 ≤ imm ∧ imm ≤ 255) = false := decide_eq_false (by omega)
        rw [e]
        clear e
        go_enter Tryd.func21, Tryd.ntmps21
        go_wp2_with fail
        refine HP.out.mono ?_
        rintro e w1 ⟨rfl, K1⟩
        have B1 := K1.blk HB0.out (fun h => h)
        have c0 : _ = some (Value.int .i64 21) := B1.cell 0
        have c4 : _ = some (Value.int .u64 imm) := B1.cell 4
        have HK := Lib.hid (((Kept.refl (fun _ => False) _).alloc _).trans K1)
        clear B1 K1
        go_wp2_with fail
        refine (unless_calls _ _ _).mono ?_
        rintro e w' ⟨rfl, rfl⟩
        go_wp2_with fail
        go_ret
        exact ⟨rfl, HK.out⟩
    by_cases c17 : op = 17 ∨ op = 18
    · have e := h17 c17
      subst e
      clear h8 h11 h21 h17 h19 h0 o0 o1 c8 c11 c21
      by_cases g1 : (k : Int) < imm
      · have e : decide ((k : Int) < imm ∧ imm < n) = decide (imm < n) := decide_of _ _ (by omega)
        rw [e]
        clear e
        rcases c17 with rfl | rfl
        all_goals
          go_enter Tryd.func21, Tryd.ntmps21
          go_wp2_with fail
          refine HP.out.mono ?_
          rintro e w1 ⟨rfl, K1⟩
          have B1 := K1.blk HB0.out (fun h => h)
          have c0 : _ = some (Value.int .i64 _) := B1.cell 0
          have c4 : _ = some (Value.int .u64 imm) := B1.cell 4
          have HK := Lib.hid (((Kept.refl (fun _ => False) _).alloc _).trans K1)
          clear B1 K1
          go_wp2_with fail
          refine (unless_calls _ _ _).mono ?_
          rintro e w' ⟨rfl, rfl⟩
          go_wp2_with fail
          go_ret
          exact ⟨rfl, HK.out⟩
      · have g2 : imm ≤ k := by omega
        have g3 : decide ((k : Int) < imm) = false := decide_eq_false g1
        have e : decide ((k : Int) < imm ∧ imm < n) = false := decide_eq_false (fun h => g1 h.1)
        rw [e]
        clear e
        rcases c17 with rfl | rfl
        all_goals
          go_enter Tryd.func21, Tryd.ntmps21
          go_wp2_with fail
          refine HP.out.mono ?_
          rintro e w1 ⟨rfl, K1⟩
          have B1 := K1.blk HB0.out (fun h => h)
          have c0 : _ = some (Value.int .i64 _) := B1.cell 0
          have c4 : _ = some (Value.int .u64 imm) := B1.cell 4
          have HK := Lib.hid (((Kept.refl (fun _ => False) _).alloc _).trans K1)
          clear B1 K1
          go_wp2_with fail
          refine (unless_calls _ _ _).mono ?_
          rintro e w' ⟨rfl, rfl⟩
          go_wp2_with fail
          go_ret
          exact ⟨rfl, HK.out⟩
    by_cases c19 : op = 19
    · have e := h19 c19
      subst c19
      subst e
      clear h8 h11 h21 h17 h19 h0 o0 o1 c8 c11 c21 c17
      go_enter Tryd.func21, Tryd.ntmps21
      go_wp2_with fail
      refine HP.out.mono ?_
      rintro e w1 ⟨rfl, K1⟩
      have B1 := K1.blk HB0.out (fun h => h)
      have c0 : _ = some (Value.int .i64 19) := B1.cell 0
      have c4 : _ = some (Value.int .u64 imm) := B1.cell 4
      have HK := Lib.hid (((Kept.refl (fun _ => False) _).alloc _).trans K1)
      clear B1 K1
      go_wp2_with fail
      refine (unless_calls _ _ _).mono ?_
      rintro e w' ⟨rfl, rfl⟩
      go_wp2_with fail
      go_ret
      exact ⟨rfl, HK.out⟩
    · have e := h0 (by omega)
      subst e
      have n1 : (op == 8) = false := by simp; omega
      have n2 : (op == 11) = false := by simp; omega
      have n3 : (op == 13) = false := by simp; omega
      have n4 : (op == 21) = false := by simp; omega
      have n5 : (op == 17) = false := by simp; omega
      have n6 : (op == 18) = false := by simp; omega
      have n7 : (op == 19) = false := by simp; omega
      clear h8 h11 h21 h17 h19 h0 c8 c11 c21 c17 c19 o0 o1
      go_enter Tryd.func21, Tryd.ntmps21
      go_wp2_with fail
      refine HP.out.mono ?_
      rintro e w1 ⟨rfl, K1⟩
      have B1 := K1.blk HB0.out (fun h => h)
      have c0 : _ = some (Value.int .i64 op) := B1.cell 0
      have HK := Lib.hid (((Kept.refl (fun _ => False) _).alloc _).trans K1)
      clear B1 K1
      go_wp2_with fail
      go_ret
      exact ⟨rfl, HK.out⟩

end Go.Proofs.YtapmechbliofeaaDoor
