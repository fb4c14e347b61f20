/- Layer 8 (wset): Back, all of it. -/
import Derived.Test.YtebffkoonbkhnaaWsU
namespace Go.Proofs.Ytebffkoonbkhnaa
open Go.RowKit Go.Maps

section
variable {w : World} {b : Nat} {room : Int} {ps : List (Int × Int)} {n : Nat} {F : Nat → Prop}
set_option maxRecDepth 100000 in
set_option maxHeartbeats 2000000 in
theorem back_no (h : ISet w b room ps n F) (hp : ps.length ≤ 60000) (mark : Int) (hm : mark < 0 ∨ (ps.length : Int) < mark) :
    Calls Try.prog 42 #[.pointer (some ⟨b, 0, none⟩), .int .i64 mark] w fun e w' => e = .returned (.bool false) ∧ w' = w := by
  obtain ⟨mb0, ev0, cv0, M0, _⟩ := h
  obtain ⟨A0, c0, rfl⟩ := own_form M0.chg
  obtain ⟨L, hL⟩ : ∃ L, ps.length = L := ⟨_, rfl⟩
  have c3 : w.cell? ⟨b, 3, none⟩ = some (.slice A0 L c0) := by rw [← hL, ← chs_len]; exact M0.blk.cell 3
  rw [hL] at hm hp
  clear hL M0
  rcases Int.lt_or_le mark 0 with h0 | h0
  · have hd0 : decide (mark < 0) = true := decide_eq_true h0
    clear hm
    go_enter Try.func42, Try.ntmps42
    go_wp2_with fail
    go_ret
    exact ⟨rfl, rfl⟩
  · have hd0 : decide (mark < 0) = false := decide_eq_false (by omega)
    have hd1 : ¬ mark < 0 := by omega
    have hm1 : (L : Int) < mark := by omega
    clear hm
    go_enter Try.func42, Try.ntmps42
    go_wp2_with fail
    go_ret
    exact ⟨rfl, rfl⟩

theorem back_calls (h : ISet w b room ps n F) (hw : Wf ps) (hp : ps.length ≤ 60000) (mark : Int) :
    Calls Try.prog 42 #[.pointer (some ⟨b, 0, none⟩), .int .i64 mark] w (BackR w b room ps n F mark) := by
  by_cases hm : 0 ≤ mark ∧ mark ≤ ps.length
  · obtain ⟨m, rfl⟩ : ∃ m : Nat, mark = m := ⟨mark.toNat, by omega⟩
    refine (back_yes h hw hp m (by omega)).mono fun e w' ⟨h1, h2, h3⟩ => ?_
    unfold BackR
    rw [if_pos hm, decide_eq_true hm]
    exact ⟨h1, by simpa using h2, h3⟩
  · refine (back_no h hp mark (by omega)).mono fun e w' ⟨h1, h2⟩ => ?_
    unfold BackR
    rw [if_neg hm, decide_eq_false hm, h2]
    exact ⟨h1, h, Kept.refl _ _⟩
end
end Go.Proofs.Ytebffkoonbkhnaa
