/- Layer 5 (check): the document's Fault, Right, Reads. -/
import Derived.Test.YtapmechbliofeaaDoorCkL
namespace Go.Proofs.YtapmechbliofeaaDoor
open Go.RowKit

set_option maxRecDepth 100000 in
set_option maxHeartbeats 4000000 in
theorem refFault_calls (w : World) (A : Option Addr) (n c : Nat) (l : List InsD) (hn : l.length = n) (hm : n ≤ maxLen) (hl : InsAt w A l) (hi : ∀ d ∈ l, 0 ≤ d.imm ∧ d.imm < 18446744073709551616) :
    Calls Tryd.prog 10 #[.slice A n c] w (FaultPost w l) := by
  unfold maxLen at hm
  rcases Nat.eq_zero_or_pos n with h0 | h0
  · have hp : FaultPost w l (.returned (.tuple #[.int .i64 0, .int .i64 4])) w := by
      obtain rfl := List.eq_nil_of_length_eq_zero (hn.trans h0)
      exact ⟨rfl, Kept.refl _ _⟩
    subst h0
    clear hn hl hi
    go_enter Tryd.func10, Tryd.ntmps10
    go_wp2
    go_ret2
    exact hp
  rcases Nat.lt_or_ge 256 n with h1 | h1
  · have hp : FaultPost w l (.returned (.tuple #[.int .i64 256, .int .i64 3])) w := by
      unfold FaultPost
      rw [faultP_many (by omega)]
      exact ⟨rfl, Kept.refl _ _⟩
    clear hn hl hi
    go_enter Tryd.func10, Tryd.ntmps10
    go_wp2
    go_ret2
    exact hp
  have HI := Lib.hid hi
  have HN := Lib.hid hn
  have HL := Lib.hid hl
  clear hi hn hl hm
  have hb0 : ((n : Int) == 0) = false := by simp; omega
  go_enter Tryd.func10, Tryd.ntmps10
  go_wp2_with fail
  go_loopw [4] (fun i wr => ∃ (k : Nat) (W : World), W = wr ∧ k ≤ n ∧ i = .int .i64 k ∧ (∀ j, j < k → wrongAt l j = 0) ∧ Kept (fun _ => False) w W) (fun i _ => n - (intOf i).toNat)
  case atStart => exact ⟨0, _, rfl, Nat.zero_le _, rfl, fun j hj => absurd hj (by omega), Kept.refl _ _⟩
  case round =>
    obtain ⟨k, wr, rfl, hk, rfl, hp, hK⟩ := hrel
    have HP := Lib.hid hp
    have HK := Lib.hid hK
    clear hp hK
    by_cases hlt : k < n
    · have hlt' : k < l.length := by have := HN.out; omega
      obtain ⟨im0, im1⟩ := HI.out l[k] (List.getElem_mem _)
      have hW := refOne_calls wr A n c l k hlt' HN.out h1 (HL.out.kept HK.out) im0 im1
      have hE : wrongAt l k = wrongE l[k] k n := by rw [wrongAt_eq hlt', HN.out]
      rw [← hE] at hW
      have HW := Lib.hid hW
      clear hW hE im0 im1
      by_cases hz : wrongAt l k = 0
      · have HZ := Lib.hid hz
        rw [hz] at HW
        clear hz
        go_wp2_with fail
        refine HW.out.mono ?_
        rintro e w2 ⟨rfl, K2⟩
        have HK2 := Lib.hid (HK.out.trans K2)
        clear K2
        go_wp2_with fail
        refine ⟨⟨k + 1, w2, rfl, by omega, rfl, fun j hj => ?_, HK2.out⟩, by simp [intOf]; omega⟩
        rcases Nat.lt_or_ge j k with h | h
        · exact HP.out j h
        · obtain rfl : j = k := by omega
          exact HZ.out
      · have hb1 : (wrongAt l k == 0) = false := by simpa using hz
        have hb2 : (!(wrongAt l k == 0)) = true := by rw [hb1]; rfl
        have HF := Lib.hid (faultP_at (by rw [HN.out]; exact h1) hlt' hz HP.out)
        generalize wrongAt l k = E at *
        clear hz
        go_wp2_with fail
        refine HW.out.mono ?_
        rintro e w2 ⟨rfl, K2⟩
        have HK2 := Lib.hid (HK.out.trans K2)
        clear K2
        go_wp2_with fail
        go_ret2
        unfold FaultPost
        rw [HF.out]
        exact ⟨rfl, HK2.out⟩
    · have hkn : k = n := by omega
      subst hkn
      have HF := Lib.hid (faultP_all (l := l) (by rw [HN.out]; exact h0) (by rw [HN.out]; exact h1) (by rw [HN.out]; exact HP.out))
      have hlt' : k - 1 < l.length := by have := HN.out; omega
      obtain ⟨sb, so, hA, hsb, c0, _, _, _, _⟩ := ins_cells (HL.out.kept HK.out) hlt'
      subst hA
      have he : l[k - 1].op = lastOp l := by
        rw [lastOp_eq (by omega)]
        congr 2
        rw [HN.out]
      rw [he] at c0
      clear he
      have hk1 : (k : Int) - 1 = ((k - 1 : Nat) : Int) := by omega
      by_cases h20 : lastOp l = 20
      · have he : endsB (lastOp l) = true := by rw [h20]; rfl
        rw [he] at HF
        rw [h20] at c0
        clear he h20
        go_wp2_with fail
        go_ret2
        unfold FaultPost
        rw [HF.out]
        exact ⟨rfl, HK.out⟩
      by_cases h21 : lastOp l = 21
      · have he : endsB (lastOp l) = true := by rw [h21]; rfl
        rw [he] at HF
        rw [h21] at c0
        clear he h20 h21
        go_wp2_with fail
        go_ret2
        unfold FaultPost
        rw [HF.out]
        exact ⟨rfl, HK.out⟩
      · have he : endsB (lastOp l) = false := by
          unfold endsB
          rw [decide_eq_false_iff_not]
          omega
        rw [he] at HF
        have b20 : (lastOp l == 20) = false := by simpa using h20
        have b21 : (lastOp l == 21) = false := by simpa using h21
        have d20 : (lastOp l != 20) = true := bne_iff_ne.2 h20
        have d21 : (lastOp l != 21) = true := bne_iff_ne.2 h21
        clear he b20 b21
        go_wp2_with fail
        go_ret2
        unfold FaultPost
        rw [HF.out, HN.out]
        exact ⟨by simp, HK.out⟩

set_option maxRecDepth 100000 in
theorem refRight_calls (w : World) (A : Option Addr) (n c : Nat) (l : List InsD) (hn : l.length = n) (hm : n ≤ maxLen) (hl : InsAt w A l) (hi : ∀ d ∈ l, 0 ≤ d.imm ∧ d.imm < 18446744073709551616) :
    Calls Tryd.prog 18 #[.slice A n c] w fun e w' => e = .returned (.bool (rightB l)) ∧ Kept (fun _ => False) w w' := by
  have HF := Lib.hid (refFault_calls w A n c l hn hm hl hi)
  clear hn hm hl hi
  unfold FaultPost at HF
  unfold rightB
  generalize faultP l = f at *
  obtain ⟨f1, f2⟩ := f
  by_cases hz : f2 = 0
  · subst hz
    go_enter Tryd.func18, Tryd.ntmps18
    go_wp2_with fail
    refine HF.out.mono ?_
    rintro e w' ⟨rfl, K⟩
    go_wp2_with fail
    go_ret
    exact ⟨rfl, K⟩
  · have hb : (f2 == 0) = false := by simpa using hz
    have e : decide (f2 = 0) = false := decide_eq_false hz
    show Calls _ _ _ _ (fun e w' => e = .returned (.bool (decide (f2 = 0))) ∧ Kept (fun _ => False) w w')
    rw [e]
    clear e hz
    go_enter Tryd.func18, Tryd.ntmps18
    go_wp2_with fail
    refine HF.out.mono ?_
    rintro e w' ⟨rfl, K⟩
    go_wp2_with fail
    go_ret
    exact ⟨rfl, K⟩

set_option maxRecDepth 100000 in
set_option maxHeartbeats 4000000 in
theorem refReads_calls (w : World) (A : Option Addr) (n c : Nat) (l : List InsD) (hn : l.length = n) (hm : n ≤ maxLen) (hl : InsAt w A l) (hi : ∀ d ∈ l, 0 ≤ d.imm ∧ d.imm < 18446744073709551616) :
    Calls Tryd.prog 13 #[.slice A n c] w fun e w' => e = .returned (.bool (readsB l)) ∧ Kept (fun _ => False) w w' := by
  have HM := Lib.hid hm
  unfold maxLen at hm
  have HI := Lib.hid hi
  have HN := Lib.hid hn
  have HL := Lib.hid hl
  clear hi hn hl
  go_enter Tryd.func13, Tryd.ntmps13
  go_wp2_with fail
  go_loopw [3] (fun i wr => ∃ (k : Nat) (W : World), W = wr ∧ k ≤ n ∧ i = .int .i64 k ∧ (l.take k).all (fun d => decide (costP d.op = 0)) = true ∧ Kept (fun _ => False) w W) (fun i _ => n - (intOf i).toNat)
  case atStart => exact ⟨0, _, rfl, Nat.zero_le _, rfl, rfl, Kept.refl _ _⟩
  case round =>
    obtain ⟨k, wr, rfl, hk, rfl, hp, hK⟩ := hrel
    have HP := Lib.hid hp
    have HK := Lib.hid hK
    clear hp hK
    by_cases hlt : k < n
    · have hlt' : k < l.length := by have := HN.out; omega
      obtain ⟨sb, so, hA, hsb, c0, c1, c2, c3, c4⟩ := ins_cells (HL.out.kept HK.out) hlt'
      subst hA
      have HC := Lib.hid (refWrites_calls l[k].op)
      have hz := costP_pos l[k].op
      have HS := Lib.hid (List.take_succ_eq_append_getElem hlt')
      have HE := Lib.hid (List.getElem_mem hlt')
      generalize l[k] = d at *
      obtain ⟨op, a, b, c, imm⟩ := d
      simp only at *
      cases hc : decide (costP op = 0)
      · have HC0 := Lib.hid hc
        rw [hc] at hz
        have hz' : decide (0 < costP op) = true := hz
        obtain ⟨q, hq⟩ : ∃ q, costP op = q := ⟨_, rfl⟩
        rw [hq] at HC hz'
        clear hc hz hq
        go_wp2_with fail
        refine (HC.out _).mono ?_
        rintro e w' ⟨rfl, rfl⟩
        go_wp2_with fail
        go_ret
        refine ⟨?_, HK.out⟩
        have : readsB l = false := by
          unfold readsB
          rw [show (l.all fun d => decide (costP d.op = 0)) = false from List.all_eq_false.2 ⟨_, HE.out, by simp [HC0.out]⟩]
          rfl
        rw [this]
        rfl
      · have hq : costP op = 0 := of_decide_eq_true hc
        rw [hq] at HC
        have HC0 := Lib.hid hc
        clear hc hz hq
        go_wp2_with fail
        refine (HC.out _).mono ?_
        rintro e w' ⟨rfl, rfl⟩
        go_wp2_with fail
        refine ⟨⟨k + 1, _, rfl, by omega, rfl, ?_, HK.out⟩, by simp [intOf]; omega⟩
        rw [HS.out, List.all_append, HP.out]
        simp [HC0.out]
    · have hkn : k = n := by omega
      subst hkn
      have hall : readsB l = rightB l := by
        unfold readsB
        have := HP.out
        rw [List.take_of_length_le (by rw [HN.out]; exact Nat.le_refl _)] at this
        rw [this]
        rfl
      have HALL := Lib.hid hall
      clear hall
      go_wp2_with fail
      refine (refRight_calls _ A k c l HN.out HM.out (HL.out.kept HK.out) HI.out).mono ?_
      rintro e w2 ⟨rfl, K2⟩
      go_wp2_with fail
      go_ret
      exact ⟨by rw [HALL.out]; rfl, HK.out.trans K2⟩

end Go.Proofs.YtapmechbliofeaaDoor
