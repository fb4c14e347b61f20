/- Layer 5 (check): Fault, Right. -/
import Derived.Test.YtapmechbliofeaaDoorCkC
namespace Go.Proofs.YtapmechbliofeaaDoor
open Go.RowKit

def FaultPost (w : World) (l : List InsD) (e : Ending) (w' : World) : Prop := e = .returned (.tuple #[.int .i64 (faultP l).1, .int .i64 (faultP l).2]) ∧ Kept (fun _ => False) w w'

set_option maxRecDepth 100000 in
set_option maxHeartbeats 4000000 in
theorem fault_calls (w : World) (A : Option Addr) (n c : Nat) (l : List InsD) (hn : l.length = n) (hm : n ≤ maxLen) (hl : InsAt w A l) (hi : ∀ d ∈ l, 0 ≤ d.imm ∧ d.imm < 18446744073709551616) (T : Tabs w) :
    Calls Tryd.prog 9 #[.slice A n c] w (FaultPost w l) := by
  unfold maxLen at hm
  rcases Nat.eq_zero_or_pos n with h0 | h0
  · have hp : FaultPost w l (.returned (.tuple #[.int .i64 0, .int .i64 4])) w := by
      obtain rfl := List.eq_nil_of_length_eq_zero (hn.trans h0)
      exact ⟨rfl, Kept.refl _ _⟩
    subst h0
    clear hn hl hi T
    go_enter Tryd.func9, Tryd.ntmps9
    go_wp2
    go_ret2
    exact hp
  rcases Nat.lt_or_ge 256 n with h1 | h1
  · have hp : FaultPost w l (.returned (.tuple #[.int .i64 256, .int .i64 3])) w := by
      unfold FaultPost
      rw [faultP_many (by omega)]
      exact ⟨rfl, Kept.refl _ _⟩
    clear hn hl hi T
    go_enter Tryd.func9, Tryd.ntmps9
    go_wp2
    go_ret2
    exact hp
  have HI := Lib.hid hi
  have HN := Lib.hid hn
  have HL := Lib.hid hl
  have HT := Lib.hid T
  clear hi hn hl T hm
  have hb0 : ((n : Int) == 0) = false := by simp; omega
  go_enter Tryd.func9, Tryd.ntmps9
  go_wp2_with fail
  go_loopw [16] (fun i wr => ∃ (k : Nat) (W : World), W = wr ∧ k ≤ n ∧ i = .int .i64 k ∧ (∀ j, j < k → wrongAt l j = 0) ∧ Kept (fun _ => False) w W) (fun i _ => n - (intOf i).toNat)
  case atStart => exact ⟨0, _, rfl, Nat.zero_le _, rfl, fun j hj => absurd hj (by omega), Kept.refl _ _⟩
  case round =>
    obtain ⟨k, wr, rfl, hk, rfl, hp, hK⟩ := hrel
    have HP := Lib.hid hp
    have HK := Lib.hid hK
    clear hp hK
    by_cases hlt : k < n
    · have hlt' : k < l.length := by have := HN.out; omega
      obtain ⟨sb, so, hA, hsb, c0, c1, c2, c3, c4⟩ := ins_cells (HL.out.kept HK.out) hlt'
      subst hA
      obtain ⟨im0, im1⟩ := HI.out l[k] (List.getElem_mem _)
      have hW := wrong_calls l[k] k n (wr.alloc (.cells #[.int .i64 l[k].op, .int .i64 l[k].a, .int .i64 l[k].b, .int .i64 l[k].c, .int .u64 l[k].imm] 38)) (HT.out.kept (HK.out.alloc _)) im0 im1 (by omega) (by omega)
      have hE : wrongAt l k = wrongE l[k] k n := by rw [wrongAt_eq hlt', HN.out]
      rw [← hE] at hW
      have HW := Lib.hid hW
      clear hW hE im0 im1
      unfold insV at HW
      by_cases hz : wrongAt l k = 0
      · have HZ := Lib.hid hz
        rw [hz] at HW
        clear hz
        go_wp2_with fail
        refine HW.out.mono ?_
        rintro e w2 ⟨rfl, K2⟩
        have HK2 := Lib.hid (HK.out.trans (((Kept.refl _ _).alloc _).trans K2))
        clear K2
        go_wp2_with fail
        refine ⟨⟨k + 1, w2, rfl, by omega, rfl, fun j hj => ?_, HK2.out⟩, by simp [intOf]; omega⟩
        rcases Nat.lt_or_ge j k with h | h
        · exact HP.out j h
        · obtain rfl : j = k := by omega
          exact HZ.out
      · have hb1 : (wrongAt l k == 0) = false := by simpa using hz
        have hb2 : (!(wrongAt l k == 0)) = true := by rw [hb1]; rfl
        have HF := Lib.hid (faultP_at (by rw [HN.out]; exact h1) hlt' hz HP.out)
        generalize wrongAt l k = E at *
        clear hz
        go_wp2_with fail
        refine HW.out.mono ?_
        rintro e w2 ⟨rfl, K2⟩
        have HK2 := Lib.hid (HK.out.trans (((Kept.refl _ _).alloc _).trans K2))
        clear K2
        go_wp2_with fail
        go_ret2
        unfold FaultPost
        rw [HF.out]
        exact ⟨rfl, HK2.out⟩
    · have hkn : k = n := by omega
      subst hkn
      have HF := Lib.hid (faultP_all (l := l) (by rw [HN.out]; exact h0) (by rw [HN.out]; exact h1) (by rw [HN.out]; exact HP.out))
      have hlt' : k - 1 < l.length := by have := HN.out; omega
      obtain ⟨sb, so, hA, hsb, c0, _, _, _, _⟩ := ins_cells (HL.out.kept HK.out) hlt'
      subst hA
      have he : l[k - 1].op = lastOp l := by
        rw [lastOp_eq (by omega)]
        congr 2
        rw [HN.out]
      rw [he] at c0
      clear he
      have hk1 : (k : Int) - 1 = ((k - 1 : Nat) : Int) := by omega
      go_wp2_with fail
      refine (ends_calls (lastOp l) _).mono ?_
      rintro e w' ⟨rfl, rfl⟩
      cases he : endsB (lastOp l)
      · rw [he] at HF
        clear he
        go_wp2_with fail
        go_ret2
        unfold FaultPost
        rw [HF.out, HN.out]
        exact ⟨by simp, HK.out⟩
      · rw [he] at HF
        clear he
        go_wp2_with fail
        go_ret2
        unfold FaultPost
        rw [HF.out]
        exact ⟨rfl, HK.out⟩

set_option maxRecDepth 100000 in
theorem right_calls (w : World) (A : Option Addr) (n c : Nat) (l : List InsD) (hn : l.length = n) (hm : n ≤ maxLen) (hl : InsAt w A l) (hi : ∀ d ∈ l, 0 ≤ d.imm ∧ d.imm < 18446744073709551616) (T : Tabs w) :
    Calls Tryd.prog 11 #[.slice A n c] w fun e w' => e = .returned (.bool (rightB l)) ∧ Kept (fun _ => False) w w' := by
  have HF := Lib.hid (fault_calls w A n c l hn hm hl hi T)
  clear hn hm hl hi T
  unfold FaultPost at HF
  unfold rightB
  generalize faultP l = f at *
  obtain ⟨f1, f2⟩ := f
  by_cases hz : f2 = 0
  · subst hz
    go_enter Tryd.func11, Tryd.ntmps11
    go_wp2_with fail
    refine HF.out.mono ?_
    rintro e w' ⟨rfl, K⟩
    go_wp2_with fail
    go_ret
    exact ⟨rfl, K⟩
  · have hb : (f2 == 0) = false := by simpa using hz
    have e : decide (f2 = 0) = false := decide_eq_false hz
    show Calls _ _ _ _ (fun e w' => e = .returned (.bool (decide (f2 = 0))) ∧ Kept (fun _ => False) w w')
    rw [e]
    clear e hz
    go_enter Tryd.func11, Tryd.ntmps11
    go_wp2_with fail
    refine HF.out.mono ?_
    rintro e w' ⟨rfl, K⟩
    go_wp2_with fail
    go_ret
    exact ⟨rfl, K⟩

end Go.Proofs.YtapmechbliofeaaDoor
