/- Layer 3 (instr): the walk of InstrNames. -/
import Derived.Test.YtkinnhdagdkhcaaDoorInsNm
namespace Go.Proofs.YtkinnhdagdkhcaaDoor
open Go.RowKit

theorem usesV_no (op : Int) (h : ¬ (0 ≤ op ∧ op < 22)) : usesV op = .tuple #[.bool false, .bool false, .bool false, .bool false] := by
  unfold usesV
  rw [regs_out op h, immB_out op h]
  rfl

theorem nameS_nat (k : Nat) (hk : k < 22) : nameS (k : Int) = nmS k := by
  unfold nameS
  rw [if_pos ⟨by omega, by omega⟩, Int.toNat_natCast]
theorem nm_ne (k : Nat) (hk : k < 22) : (nmS k == []) = false := by
  match k, hk with
  | 0, _ => rfl | 1, _ => rfl | 2, _ => rfl | 3, _ => rfl | 4, _ => rfl | 5, _ => rfl | 6, _ => rfl | 7, _ => rfl | 8, _ => rfl | 9, _ => rfl | 10, _ => rfl
  | 11, _ => rfl | 12, _ => rfl | 13, _ => rfl | 14, _ => rfl | 15, _ => rfl | 16, _ => rfl | 17, _ => rfl | 18, _ => rfl | 19, _ => rfl | 20, _ => rfl | 21, _ => rfl
  | k + 22, hk => exact absurd hk (by omega)

/-- What is left of the law once the kind's own part is done. -/
def NamesEnd (w : World) (e : Ending) (w' : World) : Prop := e = .returned (.bool true) ∧ Kept (fun _ => False) w w'

set_option maxRecDepth 100000 in
set_option maxHeartbeats 4000000 in
theorem names_walk (op : Int) (s : ByteArray) (w : World) (T : Tabs w) :
    Calls Tryd.prog 5 #[.int .i64 op, .string s] w (NamesEnd w) := by
  have HT := Lib.hid T
  clear T
  have HNM := Lib.hid (fun (W : World) (k : Kept (fun _ => False) w W) => name_calls op W (HT.out.kept k))
  have HRN := Lib.hid (fun W => refName_calls op W)
  have HOF := Lib.hid (fun (x : ByteArray) (W : World) (k : Kept (fun _ => False) w W) => of_calls x W (HT.out.kept k))
  have HUS := Lib.hid (fun (W : World) (k : Kept (fun _ => False) w W) => uses_calls op W (HT.out.kept k))
  have HRG := Lib.hid (fun W => refRegs_calls op W)
  have HIM := Lib.hid (fun W => refImm_calls op W)
  obtain ⟨o, k, hof, hok⟩ : ∃ (o : Int) (kb : Bool), ofS (nameS op) = (o, kb) ∧ ((kb = true ∧ o = op ∧ 0 ≤ op ∧ op < 22) ∨ (kb = false ∧ ¬ (0 ≤ op ∧ op < 22))) := by
    by_cases h : 0 ≤ op ∧ op < 22
    · refine ⟨op, true, ?_, .inl ⟨rfl, rfl, h.1, h.2⟩⟩
      obtain ⟨k, rfl⟩ : ∃ k : Nat, op = k := ⟨op.toNat, by omega⟩
      have e : nameS (k : Int) = nmS k := by unfold nameS; rw [if_pos h, Int.toNat_natCast]
      rw [e]
      exact ofS_nm k (by omega)
    · refine ⟨0, false, ?_, .inr ⟨rfl, h⟩⟩
      have e : nameS op = [] := by unfold nameS; rw [if_neg h]
      rw [e]
      decide +kernel
  have HO := Lib.hid hof
  clear hof
  unfold usesV at HUS
  obtain ⟨nm, hnm⟩ : ∃ nm, nameS op = nm := ⟨_, rfl⟩
  rw [hnm] at HNM HRN HO
  clear hnm
  obtain ⟨n, hn⟩ : ∃ n, regs op = n := ⟨_, rfl⟩
  obtain ⟨ui, hui⟩ : ∃ ui, immB op = ui := ⟨_, rfl⟩
  rw [hn, hui] at HUS
  rw [hn] at HRG
  rw [hui] at HIM
  clear hn hui
  go_enter Tryd.func5, Tryd.ntmps5
  go_wp2_with fail
  refine (alive_calls _ HT.out).mono ?_
  rintro e w1 ⟨rfl, K1⟩
  have HK1 := Lib.hid K1
  clear K1
  go_wp2_with fail
  refine (HRG.out _).mono ?_
  rintro e w' ⟨rfl, rfl⟩
  go_wp2_with fail
  refine (HUS.out _ HK1.out).mono ?_
  rintro e w2 ⟨rfl, K2⟩
  have HK2 := Lib.hid (HK1.out.trans K2)
  clear K2
  go_wp2_with fail
  refine (HNM.out _ HK2.out).mono ?_
  rintro e w' ⟨rfl, rfl⟩
  go_wp2_with fail
  refine (HRN.out _).mono ?_
  rintro e w3 ⟨rfl, K3⟩
  have HK3 := Lib.hid (HK2.out.trans K3)
  clear K3
  have t1 : (nm == nm) = true := beq_self_eq_true nm
  go_wp2_with fail
  refine (HIM.out _).mono ?_
  rintro e w' ⟨rfl, rfl⟩
  go_wp2_with fail
  refine (HNM.out _ HK3.out).mono ?_
  rintro e w' ⟨rfl, rfl⟩
  go_wp2_with fail
  have hO1 := HOF.out ⟨nm.toArray⟩ w3 HK3.out
  rw [ByteArray.toList_mk, HO.out] at hO1
  refine hO1.mono ?_
  rintro e w' ⟨rfl, rfl⟩
  clear hO1 t1
  have hO2 := HOF.out s w3 HK3.out
  have HOC := Lib.hid (ofS_cases s.toList)
  rcases hok with ⟨rfl, rfl, g0, g1⟩ | ⟨rfl, hno⟩
  · have t2 : (o == o) = true := beq_self_eq_true o
    rcases HOC.out with ⟨hs, hne⟩ | ⟨j, hj, hs, hl⟩
    · rw [hs] at hO2
      have HNE := Lib.hid hne
      clear hs hne HOC
      go_wp2_with fail
      refine hO2.mono ?_
      rintro e w' ⟨rfl, rfl⟩
      clear hO2 t2
      go_wp2_with fail
      go_loopw [84] (fun i wr' => ∃ (k : Nat) (W : World), W = wr' ∧ k ≤ 22 ∧ i = .int .i64 k ∧ Kept (fun _ => False) w W) (fun i _ => 22 - (intOf i).toNat)
      case atStart => exact ⟨0, _, rfl, by omega, rfl, HK3.out⟩
      case round =>
        obtain ⟨k, W, rfl, hk, rfl, K⟩ := hrel
        have HK := Lib.hid K
        clear K
        by_cases hlt : k < 22
        · have hR := refName_calls (k : Int) W
          rw [nameS_nat k hlt] at hR
          have hne := HNE.out k hlt
          go_wp2_with fail
          refine hR.mono ?_
          rintro e w4 ⟨rfl, K4⟩
          have HK4 := Lib.hid (HK.out.trans K4)
          clear K4 hR
          go_wp2_with fail
          exact ⟨⟨k + 1, w4, rfl, by omega, rfl, HK4.out⟩, by simp [intOf]; omega⟩
        · go_wp2_with fail
          go_ret
          exact ⟨rfl, HK.out⟩
    · rw [hs] at hO2
      have HL := Lib.hid hl
      clear hs hl HOC
      go_wp2_with fail
      refine hO2.mono ?_
      rintro e w' ⟨rfl, rfl⟩
      clear hO2 t2
      go_wp2_with fail
      have hR := refName_calls (j : Int) w3
      rw [nameS_nat j hj] at hR
      have t3 : (nmS j == s.toList) = true := by rw [HL.out]; exact beq_self_eq_true _
      have t4 : (s.toList == []) = false := by rw [HL.out]; exact nm_ne j hj
      have t5 : s.toList.isEmpty = false := by
        rw [HL.out]
        have := nm_ne j hj
        cases h : nmS j with
        | nil => rw [h] at this; cases this
        | cons => rfl
      refine hR.mono ?_
      rintro e w4 ⟨rfl, K4⟩
      have HK4 := Lib.hid (HK3.out.trans K4)
      clear K4 hR
      go_wp2_with fail
      go_ret
      exact ⟨rfl, HK4.out⟩
  · by_cases g0 : 0 ≤ op
    · have g1 : 22 ≤ op := by omega
      clear hno
      rcases HOC.out with ⟨hs, hne⟩ | ⟨j, hj, hs, hl⟩
      · rw [hs] at hO2
        have HNE := Lib.hid hne
        clear hs hne HOC
        go_wp2_with fail
        refine hO2.mono ?_
        rintro e w' ⟨rfl, rfl⟩
        clear hO2
        go_wp2_with fail
        go_loopw [84] (fun i wr' => ∃ (k : Nat) (W : World), W = wr' ∧ k ≤ 22 ∧ i = .int .i64 k ∧ Kept (fun _ => False) w W) (fun i _ => 22 - (intOf i).toNat)
        case atStart => exact ⟨0, _, rfl, by omega, rfl, HK3.out⟩
        case round =>
          obtain ⟨k, W, rfl, hk, rfl, K⟩ := hrel
          have HK := Lib.hid K
          clear K
          by_cases hlt : k < 22
          · have hR := refName_calls (k : Int) W
            rw [nameS_nat k hlt] at hR
            have hne := HNE.out k hlt
            go_wp2_with fail
            refine hR.mono ?_
            rintro e w4 ⟨rfl, K4⟩
            have HK4 := Lib.hid (HK.out.trans K4)
            clear K4 hR
            go_wp2_with fail
            exact ⟨⟨k + 1, w4, rfl, by omega, rfl, HK4.out⟩, by simp [intOf]; omega⟩
          · go_wp2_with fail
            go_ret
            exact ⟨rfl, HK.out⟩
      · rw [hs] at hO2
        have HL := Lib.hid hl
        clear hs hl HOC
        go_wp2_with fail
        refine hO2.mono ?_
        rintro e w' ⟨rfl, rfl⟩
        clear hO2
        go_wp2_with fail
        have hR := refName_calls (j : Int) w3
        rw [nameS_nat j hj] at hR
        have t3 : (nmS j == s.toList) = true := by rw [HL.out]; exact beq_self_eq_true _
        have t4 : (s.toList == []) = false := by rw [HL.out]; exact nm_ne j hj
        have t5 : s.toList.isEmpty = false := by
          rw [HL.out]
          have := nm_ne j hj
          cases h : nmS j with
          | nil => rw [h] at this; cases this
          | cons => rfl
        refine hR.mono ?_
        rintro e w4 ⟨rfl, K4⟩
        have HK4 := Lib.hid (HK3.out.trans K4)
        clear K4 hR
        go_wp2_with fail
        go_ret
        exact ⟨rfl, HK4.out⟩
    · have g1 : op < 0 := by omega
      clear hno
      rcases HOC.out with ⟨hs, hne⟩ | ⟨j, hj, hs, hl⟩
      · rw [hs] at hO2
        have HNE := Lib.hid hne
        clear hs hne HOC
        go_wp2_with fail
        refine hO2.mono ?_
        rintro e w' ⟨rfl, rfl⟩
        clear hO2
        go_wp2_with fail
        go_loopw [84] (fun i wr' => ∃ (k : Nat) (W : World), W = wr' ∧ k ≤ 22 ∧ i = .int .i64 k ∧ Kept (fun _ => False) w W) (fun i _ => 22 - (intOf i).toNat)
        case atStart => exact ⟨0, _, rfl, by omega, rfl, HK3.out⟩
        case round =>
          obtain ⟨k, W, rfl, hk, rfl, K⟩ := hrel
          have HK := Lib.hid K
          clear K
          by_cases hlt : k < 22
          · have hR := refName_calls (k : Int) W
            rw [nameS_nat k hlt] at hR
            have hne := HNE.out k hlt
            go_wp2_with fail
            refine hR.mono ?_
            rintro e w4 ⟨rfl, K4⟩
            have HK4 := Lib.hid (HK.out.trans K4)
            clear K4 hR
            go_wp2_with fail
            exact ⟨⟨k + 1, w4, rfl, by omega, rfl, HK4.out⟩, by simp [intOf]; omega⟩
          · go_wp2_with fail
            go_ret
            exact ⟨rfl, HK.out⟩
      · rw [hs] at hO2
        have HL := Lib.hid hl
        clear hs hl HOC
        go_wp2_with fail
        refine hO2.mono ?_
        rintro e w' ⟨rfl, rfl⟩
        clear hO2
        go_wp2_with fail
        have hR := refName_calls (j : Int) w3
        rw [nameS_nat j hj] at hR
        have t3 : (nmS j == s.toList) = true := by rw [HL.out]; exact beq_self_eq_true _
        have t4 : (s.toList == []) = false := by rw [HL.out]; exact nm_ne j hj
        have t5 : s.toList.isEmpty = false := by
          rw [HL.out]
          have := nm_ne j hj
          cases h : nmS j with
          | nil => rw [h] at this; cases this
          | cons => rfl
        refine hR.mono ?_
        rintro e w4 ⟨rfl, K4⟩
        have HK4 := Lib.hid (HK3.out.trans K4)
        clear K4 hR
        go_wp2_with fail
        go_ret
        exact ⟨rfl, HK4.out⟩

end Go.Proofs.YtkinnhdagdkhcaaDoor
