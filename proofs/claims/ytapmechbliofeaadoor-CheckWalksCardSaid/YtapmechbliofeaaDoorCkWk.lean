/- Layer 5 (check): the walk of CheckWalks. -/
import Derived.Test.YtapmechbliofeaaDoorCkJ
namespace Go.Proofs.YtapmechbliofeaaDoor
open Go.RowKit

set_option maxRecDepth 100000 in
set_option maxHeartbeats 8000000 in
theorem walks_walk (A : Option Addr) (n c : Nat) (l : List InsD) (C : Option Addr) (m q : Nat) (B : Nat → Bool) (w : World) (hn : l.length = n) (hm : n ≤ maxLen) (hl : InsAt w A l) (hi : ∀ d ∈ l, 0 ≤ d.imm ∧ d.imm < 18446744073709551616)
    (hmm : m ≤ maxLen) (hB : BoolsAt w C m B) (T : Tabs w) :
    Calls Tryd.prog 5 #[.slice A n c, .slice C m q] w (Good w) := by
  have HM := Lib.hid hm
  unfold maxLen at hm hmm
  have HT := Lib.hid T
  have HI := Lib.hid hi
  have HN := Lib.hid hn
  have HL := Lib.hid hl
  have HBA := Lib.hid hB
  clear T hi hn hl hB
  by_cases h40 : 40 < n
  · go_enter Tryd.func5, Tryd.ntmps5
    go_wp2_with fail
    refine (alive_calls _ HT.out).mono ?_
    rintro e w1 ⟨rfl, K1⟩
    go_wp2_with fail
    go_ret
    exact ⟨rfl, K1⟩
  have h40' : n ≤ 40 := by omega
  by_cases h300 : 300 < m
  · clear h40
    go_enter Tryd.func5, Tryd.ntmps5
    go_wp2_with fail
    refine (alive_calls _ HT.out).mono ?_
    rintro e w1 ⟨rfl, K1⟩
    go_wp2_with fail
    go_ret
    exact ⟨rfl, K1⟩
  have h300' : m ≤ 300 := by omega
  clear h40 h300 hm hmm
  go_enter Tryd.func5, Tryd.ntmps5
  go_wp2_with fail
  refine (alive_calls _ HT.out).mono ?_
  rintro e w1 ⟨rfl, K1⟩
  have HK1 := Lib.hid K1
  clear K1
  go_wp2_with fail
  refine (right_calls _ A n c l HN.out HM.out (HL.out.kept HK1.out) HI.out (HT.out.kept HK1.out)).mono ?_
  rintro e w2 ⟨rfl, K2⟩
  have HK2 := Lib.hid (HK1.out.trans K2)
  clear K2
  cases hr : rightB l
  · clear hr
    go_wp2_with fail
    go_ret
    exact ⟨rfl, HK2.out⟩
  have HRB := Lib.hid hr
  have HRP := Lib.hid ((rightB_iff l).1 hr)
  clear hr
  go_wp2_with fail
  refine (reach_calls _ A n c l HN.out HM.out (HL.out.kept HK2.out) HI.out (HT.out.kept HK2.out)).mono ?_
  intro e w3 hE
  obtain ⟨K3, ⟨_, g, rfl, _, hgB⟩ | ⟨h, _⟩⟩ := hE
  case inr =>
    rw [HRB.out] at h
    cases h
  have HK3 := Lib.hid (HK2.out.trans K3)
  have HG := Lib.hid hgB
  rw [HN.out]
  clear K3 hgB
  go_wp2_with fail
  refine (longest_calls _ A n c l HN.out HM.out (HL.out.kept HK3.out) HI.out (HT.out.kept HK3.out)).mono ?_
  intro e w4 hE
  obtain ⟨K4, most, ok, rfl, hL, hmn⟩ := hE
  have HK4 := Lib.hid (HK3.out.trans K4)
  have HG4 := Lib.hid (K4.blk HG.out (fun h => h))
  have HLong : Hid (ok = true → ∀ k t, Way l k t → t ≤ most) := Lib.hid (fun h => by
    rcases hL with ⟨_, _, hm, _⟩ | ⟨_, _, h'⟩
    · exact hm.2
    · rw [h] at h'; cases h')
  rw [HN.out] at hmn
  clear K4 hL
  go_wp2_with fail
  go_loopw [8, 36] (fun kv i wr => ∃ (t k : Nat) (W : World), W = wr ∧ t ≤ m ∧ i = .int .i64 t ∧ kv = .int .i64 k ∧ Way l k (t + 1) ∧ Kept (fun _ => False) w4 W) (fun _ i _ => m - (intOf i).toNat)
  case atStart => exact ⟨0, 0, _, rfl, Nat.zero_le _, rfl, rfl, .first, Kept.refl _ _⟩
  case round =>
    obtain ⟨t, k, wr, rfl, ht, rfl, rfl, hway, hK⟩ := hrel
    have HW := Lib.hid hway
    have HK := Lib.hid hK
    have HKW := Lib.hid (HK4.out.trans hK)
    clear hway hK
    by_cases hlt : t < m
    · have hkl : k < l.length := way_lt HRP.out HW.out
      have hkn : k < n := by have := HN.out; omega
      obtain ⟨cb, co, hC, hcc⟩ := HBA.out.kept HKW.out (by omega)
      subst hC
      have hcj := hcc t hlt
      obtain ⟨sb, so, hA, hsb, c0, c1, c2, c3, c4⟩ := ins_cells (HL.out.kept HKW.out) hkl
      subst hA
      have HD := Lib.hid (List.getElem?_eq_getElem hkl)
      have HSM := Lib.hid (right_small HRP.out HD.out)
      have HIM := Lib.hid (HI.out l[k] (List.getElem_mem _))
      generalize l[k] = d at *
      have HNX : Hid (∀ j, j ∈ nexts d k → Way l j (t + 1 + 1)) := Lib.hid (fun j hj => HW.out.next ⟨d, HD.out, hj⟩)
      obtain ⟨op, a, b, cc, imm⟩ := d
      simp only at *
      have hcm : wr.cell? ⟨g, k, none⟩ = some (.bool true) := by
        rw [(HK.out.blk HG4.out (fun h => h)).cell, boolsV_get, metL_get HRB.out hkl, (metB_iff l k).2 ⟨_, HW.out⟩]
        rfl
      have hnn : ((n : Int) == n) = true := beq_self_eq_true _
      clear hcc
      generalize B t = jump at *
      have hmt : ok = true → t < most := fun h => by
        have := HLong.out h k (t + 1) HW.out
        omega
      by_cases g20 : op = 20 ∨ op = 21
      · rcases g20 with rfl | rfl
        all_goals
          cases ok
          · clear hmt
            go_wp2_with fail
            go_ret
            exact ⟨rfl, HKW.out.alloc _⟩
          · have hmt' := hmt rfl
            clear hmt
            go_wp2_with fail
            go_ret
            exact ⟨rfl, HKW.out.alloc _⟩
      have n20 : (op == 20) = false := by simp; omega
      have n21 : (op == 21) = false := by simp; omega
      obtain ⟨i0, _⟩ := HIM.out
      by_cases g17 : op = 17
      · have himm := HSM.out.2 (.inl g17)
        subst g17
        have hi : ((imm.toNat : Nat) : Int) = imm := by omega
        have HN1 := Lib.hid (HNX.out imm.toNat (by simp [nexts]))
        clear g20 n20 n21
        have HIT := Lib.hid hi
        clear hi
        cases ok
        · clear hmt
          go_wp2_with fail
          exact ⟨⟨t + 1, imm.toNat, _, rfl, hlt, rfl, by rw [HIT.out], HN1.out, HK.out.alloc _⟩, by simp [intOf]; omega⟩
        · have hmt' := hmt rfl
          clear hmt
          go_wp2_with fail
          exact ⟨⟨t + 1, imm.toNat, _, rfl, hlt, rfl, by rw [HIT.out], HN1.out, HK.out.alloc _⟩, by simp [intOf]; omega⟩
      have n17 : (op == 17) = false := by simp; omega
      by_cases g18 : op = 18 ∨ op = 19
      · have himm := HSM.out.2 (by omega)
        have hi : ((imm.toNat : Nat) : Int) = imm := by omega
        have HN1 := Lib.hid (HNX.out imm.toNat (by unfold nexts; rw [if_neg g17, if_pos g18]; simp))
        have HN2 := Lib.hid (HNX.out (k + 1) (by unfold nexts; rw [if_neg g17, if_pos g18]; simp))
        clear g20 n20 n21 n17 g17
        have HIT := Lib.hid hi
        clear hi
        rcases g18 with rfl | rfl
        all_goals
          cases ok
          · clear hmt
            cases jump
            · go_wp2_with fail
              exact ⟨⟨t + 1, k + 1, _, rfl, hlt, rfl, rfl, HN2.out, HK.out.alloc _⟩, by simp [intOf]; omega⟩
            · go_wp2_with fail
              exact ⟨⟨t + 1, imm.toNat, _, rfl, hlt, rfl, by rw [HIT.out], HN1.out, HK.out.alloc _⟩, by simp [intOf]; omega⟩
          · have hmt' := hmt rfl
            clear hmt
            cases jump
            · go_wp2_with fail
              exact ⟨⟨t + 1, k + 1, _, rfl, hlt, rfl, rfl, HN2.out, HK.out.alloc _⟩, by simp [intOf]; omega⟩
            · go_wp2_with fail
              exact ⟨⟨t + 1, imm.toNat, _, rfl, hlt, rfl, by rw [HIT.out], HN1.out, HK.out.alloc _⟩, by simp [intOf]; omega⟩
      · have n18 : (op == 18) = false := by simp; omega
        have n19 : (op == 19) = false := by simp; omega
        have HN2 := Lib.hid (HNX.out (k + 1) (by unfold nexts; rw [if_neg g17, if_neg g18, if_neg g20]; simp))
        clear g17 g18 g20
        cases ok
        · clear hmt
          go_wp2_with fail
          exact ⟨⟨t + 1, k + 1, _, rfl, hlt, rfl, rfl, HN2.out, HK.out.alloc _⟩, by simp [intOf]; omega⟩
        · have hmt' := hmt rfl
          clear hmt
          go_wp2_with fail
          exact ⟨⟨t + 1, k + 1, _, rfl, hlt, rfl, rfl, HN2.out, HK.out.alloc _⟩, by simp [intOf]; omega⟩
    · go_wp2_with fail
      go_ret
      exact ⟨rfl, HKW.out⟩

end Go.Proofs.YtapmechbliofeaaDoor
