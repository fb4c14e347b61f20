/- Layer 5 (check): the walk of CheckFaults. -/
import Derived.Test.YtapmechbliofeaaDoorCkN
namespace Go.Proofs.YtapmechbliofeaaDoor
open Go.RowKit

set_option maxRecDepth 100000 in
set_option maxHeartbeats 8000000 in
theorem faults_walk (A : Option Addr) (n c : Nat) (l : List InsD) (op : Int) (w : World) (hn : l.length = n) (hm : n ≤ maxLen) (hl : InsAt w A l) (hi : ∀ d ∈ l, 0 ≤ d.imm ∧ d.imm < 18446744073709551616) (_ho : -9223372036854775808 ≤ op ∧ op ≤ 9223372036854775807) (T : Tabs w) :
    Calls Tryd.prog 3 #[.slice A n c, .int .i64 op] w (Good w) := by
  have HM := Lib.hid hm
  unfold maxLen at hm
  have HT := Lib.hid T
  have HI := Lib.hid hi
  have HN := Lib.hid hn
  have HL := Lib.hid hl
  clear T hi hn hl _ho
  by_cases h260 : 260 < n
  · have h40 : 40 < n := by omega
    have h256 : 256 < n := by omega
    go_enter Tryd.func3, Tryd.ntmps3
    go_wp2_with fail
    refine (alive_calls _ HT.out).mono ?_
    rintro e w1 ⟨rfl, K1⟩
    go_wp2_with fail
    go_ret
    exact ⟨rfl, K1⟩
  by_cases hmid : 40 < n ∧ n ≤ 256
  · obtain ⟨h40, h256⟩ := hmid
    clear h260
    go_enter Tryd.func3, Tryd.ntmps3
    go_wp2_with fail
    refine (alive_calls _ HT.out).mono ?_
    rintro e w1 ⟨rfl, K1⟩
    go_wp2_with fail
    go_ret
    exact ⟨rfl, K1⟩
  have h260' : n ≤ 260 := by omega
  have hrb : rightB l = decide ((faultP l).2 = 0) := rfl
  have HRB := Lib.hid hrb
  have HF1 := Lib.hid (fun (W : World) (k : Kept (fun _ => False) w W) => fault_calls W A n c l HN.out HM.out (HL.out.kept k) HI.out (HT.out.kept k))
  have HF2 := Lib.hid (fun (W : World) (k : Kept (fun _ => False) w W) => refFault_calls W A n c l HN.out HM.out (HL.out.kept k) HI.out)
  clear hrb h260 hm
  unfold FaultPost at HF1 HF2
  obtain ⟨f, hf⟩ : ∃ f, faultP l = f := ⟨_, rfl⟩
  rw [hf] at HRB HF1 HF2
  clear hf
  obtain ⟨f1, f2⟩ := f
  simp only at HRB HF1 HF2
  have b1 : (f1 == f1) = true := beq_self_eq_true _
  have b2 : (f2 == f2) = true := beq_self_eq_true _
  rcases (show n ≤ 40 ∨ 256 < n by omega) with hsz | hsz
  all_goals
    clear hmid
    go_enter Tryd.func3, Tryd.ntmps3
    go_wp2_with fail
    refine (alive_calls _ HT.out).mono ?_
    rintro e w1 ⟨rfl, K1⟩
    have HK1 := Lib.hid K1
    clear K1
    go_wp2_with fail
    refine (HF1.out _ HK1.out).mono ?_
    rintro e w2 ⟨rfl, K2⟩
    have HK2 := Lib.hid (HK1.out.trans K2)
    clear K2
    go_wp2_with fail
    refine (HF2.out _ HK2.out).mono ?_
    rintro e w3 ⟨rfl, K3⟩
    have HK3 := Lib.hid (HK2.out.trans K3)
    clear K3
    go_wp2_with fail
    refine (right_calls _ A n c l HN.out HM.out (HL.out.kept HK3.out) HI.out (HT.out.kept HK3.out)).mono ?_
    rintro e w4 ⟨rfl, K4⟩
    have HK4 := Lib.hid (HK3.out.trans K4)
    clear K4
    rw [HRB.out]
    have hbb : (decide (f2 = 0) == (f2 == 0)) = true := by
      by_cases h : f2 = 0
      · subst h; rfl
      · rw [decide_eq_false h, beq_eq_false_iff_ne.2 h]; rfl
    generalize decide (f2 = 0) = rb at *
    go_wp2_with fail
    refine (reads_calls _ A n c l HN.out HM.out (HL.out.kept HK4.out) HI.out (HT.out.kept HK4.out)).mono ?_
    rintro e w5 ⟨rfl, K5⟩
    have HK5 := Lib.hid (HK4.out.trans K5)
    clear K5
    go_wp2_with fail
    refine (refReads_calls _ A n c l HN.out HM.out (HL.out.kept HK5.out) HI.out).mono ?_
    rintro e w6 ⟨rfl, K6⟩
    have HK6 := Lib.hid (HK5.out.trans K6)
    clear K6
    have b3 : (readsB l == readsB l) = true := beq_self_eq_true _
    generalize readsB l = sb at *
    go_wp2_with fail
    refine (costs_calls op _).mono ?_
    rintro e w' ⟨rfl, rfl⟩
    go_wp2_with fail
    refine (refWrites_calls op _).mono ?_
    rintro e w' ⟨rfl, rfl⟩
    have b4 : (costP op == costP op) = true := beq_self_eq_true _
    generalize costP op = q at *
    go_wp2_with fail
    go_ret
    exact ⟨rfl, HK6.out⟩

end Go.Proofs.YtapmechbliofeaaDoor
