/- Layer 5 (check): the law's alive. -/
import Derived.Test.YtapmechbliofeaaDoorCkI
namespace Go.Proofs.YtapmechbliofeaaDoor
open Go.RowKit

def three : List InsD := [⟨18, 1, 0, 0, 2⟩, ⟨20, 0, 0, 0, 0⟩, ⟨21, 0, 0, 0, 7⟩]
def twoBad : List InsD := [⟨20, 0, 0, 0, 0⟩, ⟨8, 0, 0, 0, 4⟩]
theorem three_right : rightB three = true := by decide +kernel
theorem three_way {k n : Nat} (h : Way three k n) : (k = 0 ∧ n = 1) ∨ ((k = 1 ∨ k = 2) ∧ n = 2) := by
  induction h with
  | first => exact .inl ⟨rfl, rfl⟩
  | next h hj ih =>
    obtain ⟨d, hd, hj⟩ := hj
    rcases ih with ⟨rfl, rfl⟩ | ⟨rfl | rfl, rfl⟩
    · simp [three] at hd
      subst hd
      simp [nexts] at hj
      exact .inr ⟨by omega, rfl⟩
    · simp [three] at hd
      subst hd
      simp [nexts] at hj
    · simp [three] at hd
      subst hd
      simp [nexts] at hj
theorem three_met : Met three 2 := ⟨2, Way.first.next ⟨⟨18, 1, 0, 0, 2⟩, rfl, by decide⟩⟩
theorem three_long : LongIs three 2 true := by
  refine .inl ⟨three_right, fun k d hm hd => ?_, ⟨⟨2, Way.first.next ⟨⟨18, 1, 0, 0, 2⟩, rfl, by decide⟩⟩, fun k m hw => by rcases three_way hw with ⟨_, h⟩ | ⟨_, h⟩ <;> omega⟩, rfl⟩
  obtain ⟨m, hw⟩ := hm
  rcases three_way hw with ⟨rfl, _⟩ | ⟨rfl | rfl, _⟩
  all_goals
    simp [three] at hd
    subst hd
    decide

theorem small_ins {l : List InsD} (h : l.all (fun d => decide (0 ≤ d.imm ∧ d.imm < 18446744073709551616)) = true) : ∀ d ∈ l, 0 ≤ d.imm ∧ d.imm < 18446744073709551616 := fun d hd => by
  have := List.all_eq_true.1 h d hd
  exact of_decide_eq_true this

set_option maxRecDepth 100000 in
set_option maxHeartbeats 4000000 in
theorem alive_calls (w : World) (T : Tabs w) : Calls Tryd.prog 8 #[] w fun e w' => e = .returned (.bool true) ∧ Kept (fun _ => False) w w' := by
  have HT := Lib.hid T
  have HO := Lib.hid (InsAt.of_own (l := three) (World.ownsRow_lit (base := 0) (e := 38) (size := 5) w #[.int .i64 18, .int .i64 1, .int .i64 0, .int .i64 0, .int .u64 2, .int .i64 20, .int .i64 0, .int .i64 0, .int .i64 0, .int .u64 0, .int .i64 21, .int .i64 0, .int .i64 0, .int .i64 0, .int .u64 7] 3 (Nat.zero_le _) (by decide) rfl) rfl)
  have K0 : Kept (fun _ => False) w (w.alloc (.cells #[.int .i64 18, .int .i64 1, .int .i64 0, .int .i64 0, .int .u64 2, .int .i64 20, .int .i64 0, .int .i64 0, .int .i64 0, .int .u64 0, .int .i64 21, .int .i64 0, .int .i64 0, .int .i64 0, .int .u64 7] 38)) := (Kept.refl _ _).alloc _
  have HK0 := Lib.hid K0
  have h2 := InsAt.of_own (l := twoBad) (World.ownsRow_lit (base := 0) (e := 38) (size := 5) (w.alloc (.cells #[.int .i64 18, .int .i64 1, .int .i64 0, .int .i64 0, .int .u64 2, .int .i64 20, .int .i64 0, .int .i64 0, .int .i64 0, .int .u64 0, .int .i64 21, .int .i64 0, .int .i64 0, .int .i64 0, .int .u64 7] 38)) #[.int .i64 20, .int .i64 0, .int .i64 0, .int .i64 0, .int .u64 0, .int .i64 8, .int .i64 0, .int .i64 0, .int .i64 0, .int .u64 4] 2 (Nat.zero_le _) (by decide) rfl) rfl
  rw [show (w.alloc (.cells #[.int .i64 18, .int .i64 1, .int .i64 0, .int .i64 0, .int .u64 2, .int .i64 20, .int .i64 0, .int .i64 0, .int .i64 0, .int .u64 0, .int .i64 21, .int .i64 0, .int .i64 0, .int .i64 0, .int .u64 7] 38)).heap.size = w.heap.size + 1 by simp] at h2
  have HO2 := Lib.hid h2
  clear T K0 h2
  go_enter Tryd.func8, Tryd.ntmps8
  go_wp2_with fail
  refine (fault_calls _ _ 2 _ twoBad rfl (by decide) HO2.out (small_ins (by decide +kernel)) (HT.out.kept (HK0.out.alloc _))).mono ?_
  intro e w1 hE
  obtain ⟨rfl, K1⟩ := hE
  have hf : faultP twoBad = (1, 1) := by decide +kernel
  rw [hf]
  have HK1 := Lib.hid ((HK0.out.alloc _).trans K1)
  have HO1 := Lib.hid ((HO.out.kept ((Kept.refl _ _).alloc _)).kept K1)
  clear K1 hf
  go_wp2_with fail
  refine (longest_calls _ _ 3 _ three rfl (by decide) HO1.out (small_ins (by decide +kernel)) (HT.out.kept HK1.out)).mono ?_
  intro e w2 hE
  obtain ⟨K2, m, ok, rfl, hL, _⟩ := hE
  obtain ⟨rfl, rfl⟩ := hL.unique three_long
  have HK2 := Lib.hid (HK1.out.trans K2)
  have HO2' := Lib.hid (HO1.out.kept K2)
  clear K2 hL
  go_wp2_with fail
  refine (reach_calls _ _ 3 _ three rfl (by decide) HO2'.out (small_ins (by decide +kernel)) (HT.out.kept HK2.out)).mono ?_
  intro e w3 hE
  obtain ⟨K3, ⟨_, g, rfl, _, hB⟩ | ⟨h, _⟩⟩ := hE
  case inr =>
    rw [three_right] at h
    cases h
  have HK3 := Lib.hid (HK2.out.trans K3)
  have HO3 := Lib.hid (HO2'.out.kept K3)
  have HB := Lib.hid hB
  clear K3 hB
  go_wp2_with fail
  refine (right_calls _ _ 3 _ three rfl (by decide) HO3.out (small_ins (by decide +kernel)) (HT.out.kept HK3.out)).mono ?_
  rintro e w4 ⟨rfl, K4⟩
  have HK4 := Lib.hid (HK3.out.trans K4)
  have HO4 := Lib.hid (HO3.out.kept K4)
  have HB4 := Lib.hid (K4.blk HB.out (fun h => h))
  rw [three_right]
  clear K4
  go_wp2_with fail
  refine (reads_calls _ _ 3 _ three rfl (by decide) HO4.out (small_ins (by decide +kernel)) (HT.out.kept HK4.out)).mono ?_
  rintro e w5 ⟨rfl, K5⟩
  have HK5 := Lib.hid (HK4.out.trans K5)
  have hr : readsB three = true := by decide +kernel
  rw [hr]
  have c2 : w5.cell? ⟨g, 2, none⟩ = some (.bool true) := by
    rw [(K5.blk HB4.out (fun h => h)).cell, boolsV_get, metL_get three_right (by decide), (metB_iff three 2).2 three_met]
    rfl
  have hlen : three.length = 3 := rfl
  rw [hlen]
  clear K5 hr hlen
  go_wp2_with fail
  refine (right_calls _ none 0 0 [] rfl (by decide) (fun h => by cases h) (fun d hd => by cases hd) (HT.out.kept HK5.out)).mono ?_
  rintro e w6 ⟨rfl, K6⟩
  have HK6 := Lib.hid (HK5.out.trans K6)
  have hr : rightB [] = false := by decide +kernel
  rw [hr]
  clear K6 hr
  go_wp2_with fail
  refine (costs_calls 15 _).mono ?_
  rintro e w' ⟨rfl, rfl⟩
  have hc : costP 15 = 9 := by decide
  rw [hc]
  go_wp2_with fail
  go_ret
  exact ⟨rfl, HK6.out⟩


def BoolsAt (w : World) (A : Option Addr) (n : Nat) (B : Nat → Bool) : Prop := 0 < n → ∃ b off, A = some ⟨b, off, none⟩ ∧ ∀ k, k < n → w.cell? ⟨b, off + k, none⟩ = some (.bool (B k))
theorem BoolsAt.kept {w w' : World} {A : Option Addr} {n : Nat} {B : Nat → Bool} (h : BoolsAt w A n B) (k : Kept (fun _ => False) w w') : BoolsAt w' A n B := fun h0 => by
  obtain ⟨b, off, hA, hc⟩ := h h0
  exact ⟨b, off, hA, fun j hj => k.cell_some (fun h => h) (hc j hj)⟩
def Good (w : World) (e : Ending) (w' : World) : Prop := e = .returned (.bool true) ∧ Kept (fun _ => False) w w'

end Go.Proofs.YtapmechbliofeaaDoor
