/- Layer 5 (check): the document's One, Fault, Right, Reads. -/
import Derived.Test.YtapmechbliofeaaDoorCkK
namespace Go.Proofs.YtapmechbliofeaaDoor
open Go.RowKit

set_option maxRecDepth 100000 in
set_option maxHeartbeats 8000000 in
theorem refOne_calls (w : World) (A : Option Addr) (n c : Nat) (l : List InsD) (k : Nat) (hk : k < l.length) (hn : l.length = n) (hm : n ≤ 256) (hl : InsAt w A l) (i0 : 0 ≤ l[k].imm) (i1 : l[k].imm < 18446744073709551616) :
    Calls Tryd.prog 23 #[.slice A n c, .int .i64 (k : Int)] w fun e w' => e = .returned (.int .i64 (wrongE l[k] k n)) ∧ Kept (fun _ => False) w w' := by
  obtain ⟨sb, so, hA, hsb, d0, d1, d2, d3, d4⟩ := ins_cells hl hk
  subst hA
  have hkn : k < n := by omega
  clear hl hn
  generalize l[k] = d at *
  have hP := refPlain_calls d (w.alloc (.cells #[.int .i64 d.op, .int .i64 d.a, .int .i64 d.b, .int .i64 d.c, .int .u64 d.imm] 38))
  clear hk
  cases hp : plainB d
  · have e : wrongE d k n = 30 := by unfold wrongE; rw [if_pos hp]
    rw [hp] at hP
    rw [e]
    clear e hp
    obtain ⟨op, a, b, cc, imm⟩ := d
    simp only [insV] at *
    have HP := Lib.hid hP
    clear hP
    go_enter Tryd.func23, Tryd.ntmps23
    go_wp2_with fail
    refine HP.out.mono ?_
    rintro e w1 ⟨rfl, K1⟩
    go_wp2_with fail
    go_ret
    exact ⟨rfl, ((Kept.refl _ _).alloc _).trans K1⟩
  · obtain ⟨h8, h11, h21, h17, h19, h0⟩ := wrongE_of hp k n
    obtain ⟨⟨o0, o1⟩, _⟩ := plain_bounds hp
    rw [hp] at hP
    clear hp
    obtain ⟨op, a, b, cc, imm⟩ := d
    simp only [insV] at *
    have HP := Lib.hid hP
    have hB0 := Blk.new w 38 #[.int .i64 op, .int .i64 a, .int .i64 b, .int .i64 cc, .int .u64 imm]
    have HB0 := Lib.hid hB0
    clear hP hB0
    generalize wrongE ⟨op, a, b, cc, imm⟩ k n = E at *
    by_cases c8 : op = 8
    · have e := h8 c8
      subst c8
      subst e
      clear h8 h11 h21 h17 h19 h0 o0 o1
      by_cases g : imm < 4
      · have g' : imm ≤ 3 := by omega
        rw [decide_eq_true g]
        go_enter Tryd.func23, Tryd.ntmps23
        go_wp2_with fail
        refine HP.out.mono ?_
        rintro e w1 ⟨rfl, K1⟩
        have B1 := K1.blk HB0.out (fun h => h)
        have c0 : _ = some (Value.int .i64 8) := B1.cell 0
        have c4 : _ = some (Value.int .u64 imm) := B1.cell 4
        have HK := Lib.hid (((Kept.refl (fun _ => False) _).alloc _).trans K1)
        clear B1 K1
        go_wp2_with fail
        refine (refGoes_no _ (by omega) _).mono ?_
        rintro e w' ⟨rfl, rfl⟩
        go_wp2_with fail
        go_ret
        exact ⟨rfl, HK.out⟩
      · have g' : 3 < imm := by omega
        rw [decide_eq_false g]
        go_enter Tryd.func23, Tryd.ntmps23
        go_wp2_with fail
        refine HP.out.mono ?_
        rintro e w1 ⟨rfl, K1⟩
        have B1 := K1.blk HB0.out (fun h => h)
        have c0 : _ = some (Value.int .i64 8) := B1.cell 0
        have c4 : _ = some (Value.int .u64 imm) := B1.cell 4
        have HK := Lib.hid (((Kept.refl (fun _ => False) _).alloc _).trans K1)
        clear B1 K1
        go_wp2_with fail
        go_ret
        exact ⟨rfl, HK.out⟩
    by_cases c11 : op = 11 ∨ op = 13
    · have e := h11 c11
      subst e
      clear h8 h11 h21 h17 h19 h0 o0 o1
      by_cases g : imm < 8
      · have g' : imm ≤ 7 := by omega
        rw [decide_eq_true g]
        clear c8
        rcases c11 with rfl | rfl
        all_goals
          go_enter Tryd.func23, Tryd.ntmps23
          go_wp2_with fail
          refine HP.out.mono ?_
          rintro e w1 ⟨rfl, K1⟩
          have B1 := K1.blk HB0.out (fun h => h)
          have c0 : _ = some (Value.int .i64 _) := B1.cell 0
          have c4 : _ = some (Value.int .u64 imm) := B1.cell 4
          have HK := Lib.hid (((Kept.refl (fun _ => False) _).alloc _).trans K1)
          clear B1 K1
          go_wp2_with fail
          refine (refGoes_no _ (by omega) _).mono ?_
          rintro e w' ⟨rfl, rfl⟩
          go_wp2_with fail
          go_ret
          exact ⟨rfl, HK.out⟩
      · have g' : 7 < imm := by omega
        rw [decide_eq_false g]
        clear c8
        rcases c11 with rfl | rfl
        all_goals
          go_enter Tryd.func23, Tryd.ntmps23
          go_wp2_with fail
          refine HP.out.mono ?_
          rintro e w1 ⟨rfl, K1⟩
          have B1 := K1.blk HB0.out (fun h => h)
          have c0 : _ = some (Value.int .i64 _) := B1.cell 0
          have c4 : _ = some (Value.int .u64 imm) := B1.cell 4
          have HK := Lib.hid (((Kept.refl (fun _ => False) _).alloc _).trans K1)
          clear B1 K1
          go_wp2_with fail
          go_ret
          exact ⟨rfl, HK.out⟩
    by_cases c21 : op = 21
    · have e := h21 c21
      subst c21
      subst e
      clear h8 h11 h21 h17 h19 h0 o0 o1
      by_cases g : imm = 0
      · subst g
        rw [decide_eq_false (by omega)]
        go_enter Tryd.func23, Tryd.ntmps23
        go_wp2_with fail
        refine HP.out.mono ?_
        rintro e w1 ⟨rfl, K1⟩
        have B1 := K1.blk HB0.out (fun h => h)
        have c0 : _ = some (Value.int .i64 21) := B1.cell 0
        have c4 : _ = some (Value.int .u64 0) := B1.cell 4
        have HK := Lib.hid (((Kept.refl (fun _ => False) _).alloc _).trans K1)
        clear B1 K1
        go_wp2_with fail
        go_ret
        exact ⟨rfl, HK.out⟩
      have g0 : (imm == 0) = false := by simpa using g
      by_cases g1 : imm ≤ 255
      · rw [decide_eq_true (by omega)]
        go_enter Tryd.func23, Tryd.ntmps23
        go_wp2_with fail
        refine HP.out.mono ?_
        rintro e w1 ⟨rfl, K1⟩
        have B1 := K1.blk HB0.out (fun h => h)
        have c0 : _ = some (Value.int .i64 21) := B1.cell 0
        have c4 : _ = some (Value.int .u64 imm) := B1.cell 4
        have HK := Lib.hid (((Kept.refl (fun _ => False) _).alloc _).trans K1)
        clear B1 K1
        go_wp2_with fail
        refine (refGoes_no _ (by omega) _).mono ?_
        rintro e w' ⟨rfl, rfl⟩
        go_wp2_with fail
        go_ret
        exact ⟨rfl, HK.out⟩
      · have g2 : 255 < imm := by omega
        rw [decide_eq_false (by omega)]
        go_enter Tryd.func23, Tryd.ntmps23
        go_wp2_with fail
        refine HP.out.mono ?_
        rintro e w1 ⟨rfl, K1⟩
        have B1 := K1.blk HB0.out (fun h => h)
        have c0 : _ = some (Value.int .i64 21) := B1.cell 0
        have c4 : _ = some (Value.int .u64 imm) := B1.cell 4
        have HK := Lib.hid (((Kept.refl (fun _ => False) _).alloc _).trans K1)
        clear B1 K1
        go_wp2_with fail
        go_ret
        exact ⟨rfl, HK.out⟩
    by_cases c17 : op = 17 ∨ op = 18
    · have e := h17 c17
      subst e
      clear h8 h11 h21 h17 h19 h0 o0 o1
      clear c8 c11 c21
      by_cases g : imm < n
      · have g0 : imm < 300 := by omega
        have e : decide ((k : Int) < imm ∧ imm < n) = decide ((k : Int) < imm) := decide_of _ _ (by omega)
        rw [e]
        clear e
        by_cases g1 : (k : Int) < imm
        · rw [decide_eq_true g1]
          have hF := fun (w : World) (o : Int) (ho : o = 17 ∨ o = 18) => refForth_on o k imm ho w
          rw [decide_eq_true g1] at hF
          rcases c17 with rfl | rfl
          all_goals
            go_enter Tryd.func23, Tryd.ntmps23
            go_wp2_with fail
            refine HP.out.mono ?_
            rintro e w1 ⟨rfl, K1⟩
            have B1 := K1.blk HB0.out (fun h => h)
            have c0 : _ = some (Value.int .i64 _) := B1.cell 0
            have c4 : _ = some (Value.int .u64 imm) := B1.cell 4
            have HK := Lib.hid (((Kept.refl (fun _ => False) _).alloc _).trans K1)
            clear B1 K1
            go_wp2_with fail
            refine (refGoes_yes _ (by omega) (by omega) _).mono ?_
            rintro e w' ⟨rfl, rfl⟩
            go_wp2_with fail
            refine (hF _ _ (by decide)).mono ?_
            rintro e w' ⟨rfl, rfl⟩
            go_wp2_with fail
            go_ret
            exact ⟨rfl, HK.out⟩
        · rw [decide_eq_false g1]
          have hF := fun (w : World) (o : Int) (ho : o = 17 ∨ o = 18) => refForth_on o k imm ho w
          rw [decide_eq_false g1] at hF
          rcases c17 with rfl | rfl
          all_goals
            go_enter Tryd.func23, Tryd.ntmps23
            go_wp2_with fail
            refine HP.out.mono ?_
            rintro e w1 ⟨rfl, K1⟩
            have B1 := K1.blk HB0.out (fun h => h)
            have c0 : _ = some (Value.int .i64 _) := B1.cell 0
            have c4 : _ = some (Value.int .u64 imm) := B1.cell 4
            have HK := Lib.hid (((Kept.refl (fun _ => False) _).alloc _).trans K1)
            clear B1 K1
            go_wp2_with fail
            refine (refGoes_yes _ (by omega) (by omega) _).mono ?_
            rintro e w' ⟨rfl, rfl⟩
            go_wp2_with fail
            refine (hF _ _ (by decide)).mono ?_
            rintro e w' ⟨rfl, rfl⟩
            go_wp2_with fail
            go_ret
            exact ⟨rfl, HK.out⟩
      · have g' : (n : Int) ≤ imm := by omega
        rw [decide_eq_false (fun h => g h.2)]
        rcases c17 with rfl | rfl
        all_goals
          go_enter Tryd.func23, Tryd.ntmps23
          go_wp2_with fail
          refine HP.out.mono ?_
          rintro e w1 ⟨rfl, K1⟩
          have B1 := K1.blk HB0.out (fun h => h)
          have c0 : _ = some (Value.int .i64 _) := B1.cell 0
          have c4 : _ = some (Value.int .u64 imm) := B1.cell 4
          have HK := Lib.hid (((Kept.refl (fun _ => False) _).alloc _).trans K1)
          clear B1 K1
          go_wp2_with fail
          refine (refGoes_yes _ (by omega) (by omega) _).mono ?_
          rintro e w' ⟨rfl, rfl⟩
          go_wp2_with fail
          go_ret
          exact ⟨rfl, HK.out⟩
    by_cases c19 : op = 19
    · have e := h19 c19
      subst c19
      subst e
      clear h8 h11 h21 h17 h19 h0 o0 o1
      clear c8 c11 c21 c17
      by_cases g : imm < n
      · have g0 : imm < 300 := by omega
        have hF := fun (w : World) => refForth_back k imm w
        by_cases g1 : imm ≤ k
        · rw [decide_eq_true g1]
          rw [decide_eq_true g1] at hF
          go_enter Tryd.func23, Tryd.ntmps23
          go_wp2_with fail
          refine HP.out.mono ?_
          rintro e w1 ⟨rfl, K1⟩
          have B1 := K1.blk HB0.out (fun h => h)
          have c0 : _ = some (Value.int .i64 19) := B1.cell 0
          have c4 : _ = some (Value.int .u64 imm) := B1.cell 4
          have HK := Lib.hid (((Kept.refl (fun _ => False) _).alloc _).trans K1)
          clear B1 K1
          go_wp2_with fail
          refine (refGoes_yes _ (by omega) (by omega) _).mono ?_
          rintro e w' ⟨rfl, rfl⟩
          go_wp2_with fail
          refine (hF _).mono ?_
          rintro e w' ⟨rfl, rfl⟩
          go_wp2_with fail
          go_ret
          exact ⟨rfl, HK.out⟩
        · rw [decide_eq_false g1]
          rw [decide_eq_false g1] at hF
          go_enter Tryd.func23, Tryd.ntmps23
          go_wp2_with fail
          refine HP.out.mono ?_
          rintro e w1 ⟨rfl, K1⟩
          have B1 := K1.blk HB0.out (fun h => h)
          have c0 : _ = some (Value.int .i64 19) := B1.cell 0
          have c4 : _ = some (Value.int .u64 imm) := B1.cell 4
          have HK := Lib.hid (((Kept.refl (fun _ => False) _).alloc _).trans K1)
          clear B1 K1
          go_wp2_with fail
          refine (refGoes_yes _ (by omega) (by omega) _).mono ?_
          rintro e w' ⟨rfl, rfl⟩
          go_wp2_with fail
          refine (hF _).mono ?_
          rintro e w' ⟨rfl, rfl⟩
          go_wp2_with fail
          go_ret
          exact ⟨rfl, HK.out⟩
      · have g' : (n : Int) ≤ imm := by omega
        rw [decide_eq_false (by omega)]
        go_enter Tryd.func23, Tryd.ntmps23
        go_wp2_with fail
        refine HP.out.mono ?_
        rintro e w1 ⟨rfl, K1⟩
        have B1 := K1.blk HB0.out (fun h => h)
        have c0 : _ = some (Value.int .i64 19) := B1.cell 0
        have c4 : _ = some (Value.int .u64 imm) := B1.cell 4
        have HK := Lib.hid (((Kept.refl (fun _ => False) _).alloc _).trans K1)
        clear B1 K1
        go_wp2_with fail
        refine (refGoes_yes _ (by omega) (by omega) _).mono ?_
        rintro e w' ⟨rfl, rfl⟩
        go_wp2_with fail
        go_ret
        exact ⟨rfl, HK.out⟩
    · have e := h0 (by omega)
      subst e
      have n0 : (op == 8) = false := by simp; omega
      have n1 : (op == 11) = false := by simp; omega
      have n2 : (op == 13) = false := by simp; omega
      have n3 : (op == 21) = false := by simp; omega
      have hg : op < 17 ∨ 19 < op := by omega
      clear h8 h11 h21 h17 h19 h0 c8 c11 c21 c17 c19
      go_enter Tryd.func23, Tryd.ntmps23
      go_wp2_with fail
      refine HP.out.mono ?_
      rintro e w1 ⟨rfl, K1⟩
      have B1 := K1.blk HB0.out (fun h => h)
      have c0 : _ = some (Value.int .i64 op) := B1.cell 0
      have c4 : _ = some (Value.int .u64 imm) := B1.cell 4
      have HK := Lib.hid (((Kept.refl (fun _ => False) _).alloc _).trans K1)
      clear B1 K1
      go_wp2_with fail
      refine (refGoes_no _ hg _).mono ?_
      rintro e w' ⟨rfl, rfl⟩
      go_wp2_with fail
      go_ret
      exact ⟨rfl, HK.out⟩

end Go.Proofs.YtapmechbliofeaaDoor
