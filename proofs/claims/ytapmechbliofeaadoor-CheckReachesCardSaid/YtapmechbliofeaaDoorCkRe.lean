/- Layer 5 (check): the walk of CheckReaches. -/
import Derived.Test.YtapmechbliofeaaDoorCkV
namespace Go.Proofs.YtapmechbliofeaaDoor
open Go.RowKit

set_option maxRecDepth 100000 in
set_option maxHeartbeats 8000000 in
theorem reaches_walk (A : Option Addr) (n c : Nat) (l : List InsD) (w : World) (hn : l.length = n) (hm : n ≤ maxLen) (hl : InsAt w A l) (hi : ∀ d ∈ l, 0 ≤ d.imm ∧ d.imm < 18446744073709551616) (T : Tabs w) :
    Calls Tryd.prog 4 #[.slice A n c] w (Good w) := by
  have HM := Lib.hid hm
  unfold maxLen at hm
  have HT := Lib.hid T
  have HI := Lib.hid hi
  have HN := Lib.hid hn
  have HL := Lib.hid hl
  clear T hi hn hl
  by_cases h25 : 25 < n
  · go_enter Tryd.func4, Tryd.ntmps4
    go_wp2_with fail
    refine (alive_calls _ HT.out).mono ?_
    rintro e w1 ⟨rfl, K1⟩
    go_wp2_with fail
    go_ret
    exact ⟨rfl, K1⟩
  have h25' : n ≤ 25 := by omega
  clear h25 hm
  go_enter Tryd.func4, Tryd.ntmps4
  go_wp2_with fail
  refine (alive_calls _ HT.out).mono ?_
  rintro e w1 ⟨rfl, K1⟩
  have HK1 := Lib.hid K1
  clear K1
  go_wp2_with fail
  refine (reach_calls _ A n c l HN.out HM.out (HL.out.kept HK1.out) HI.out (HT.out.kept HK1.out)).mono ?_
  intro e w2 hE
  cases hr : rightB l
  · have HRB := Lib.hid hr
    obtain ⟨K2, ⟨h, _⟩ | ⟨_, rfl⟩⟩ := hE
    · rw [hr] at h
      cases h
    have HK2 := Lib.hid (HK1.out.trans K2)
    clear K2 hr
    go_wp2_with fail
    refine (longest_calls _ A n c l HN.out HM.out (HL.out.kept HK2.out) HI.out (HT.out.kept HK2.out)).mono ?_
    intro e w3 hE
    obtain ⟨K3, mo, ok, rfl, hL, _⟩ := hE
    have hmo : mo = 0 ∧ ok = false := by
      rcases hL with ⟨h, _⟩ | ⟨_, h1, h2⟩
      · rw [HRB.out] at h
        cases h
      · exact ⟨h1, h2⟩
    obtain ⟨rfl, rfl⟩ := hmo
    have HK3 := Lib.hid (HK2.out.trans K3)
    clear K3 hL
    go_wp2_with fail
    refine (refRight_calls _ A n c l HN.out HM.out (HL.out.kept HK3.out) HI.out).mono ?_
    rintro e w4 ⟨rfl, K4⟩
    rw [HRB.out]
    go_wp2_with fail
    go_ret
    exact ⟨rfl, HK3.out.trans K4⟩
  have HRB := Lib.hid hr
  have HRP := Lib.hid ((rightB_iff l).1 hr)
  obtain ⟨K2, ⟨_, g, rfl, _, hgB⟩ | ⟨h, _⟩⟩ := hE
  case inr =>
    rw [hr] at h
    cases h
  have HK2 := Lib.hid (HK1.out.trans K2)
  have HG2 := Lib.hid hgB
  clear K2 hgB hr
  rw [HN.out]
  go_wp2_with fail
  refine (longest_calls _ A n c l HN.out HM.out (HL.out.kept HK2.out) HI.out (HT.out.kept HK2.out)).mono ?_
  intro e w3 hE
  obtain ⟨K3, mo, ok, rfl, hL, _⟩ := hE
  have HK3 := Lib.hid (HK2.out.trans K3)
  have HG3 := Lib.hid (K3.blk HG2.out (fun h => h))
  have HLo := Lib.hid hL
  clear K3 hL
  go_wp2_with fail
  refine (refRight_calls _ A n c l HN.out HM.out (HL.out.kept HK3.out) HI.out).mono ?_
  rintro e w4 ⟨rfl, K4⟩
  rw [HRB.out]
  have HK4 := Lib.hid (HK3.out.trans K4)
  have HG4 := Lib.hid (K4.blk HG3.out (fun h => h))
  clear K4
  go_wp2_with fail
  refine (refReach_calls _ A n c l HN.out (HL.out.kept HK4.out) HI.out HRB.out).mono ?_
  intro e w5 hE
  obtain ⟨K5, ⟨_, g2, rfl, _, hgB2⟩ | ⟨h, _⟩⟩ := hE
  case inr =>
    rw [HRB.out] at h
    cases h
  have HK5 := Lib.hid (HK4.out.trans K5)
  have HG5 := Lib.hid (K5.blk HG4.out (fun h => h))
  have HX5 := Lib.hid hgB2
  rw [HN.out]
  clear K5 hgB2
  go_wp2_with fail
  refine (refLongest_calls _ A n c l HN.out (HL.out.kept HK5.out) HI.out HRB.out).mono ?_
  intro e w6 hE
  obtain ⟨K6, mo2, ok2, rfl, hL2, _⟩ := hE
  obtain ⟨rfl, rfl⟩ := hL2.unique HLo.out
  have HK6 := Lib.hid (HK5.out.trans K6)
  have HG6 := Lib.hid (K6.blk HG5.out (fun h => h))
  have HX6 := Lib.hid (K6.blk HX5.out (fun h => h))
  clear K6 hL2
  have b1 : ((n : Int) != n) = false := by simp
  have b3 : ((mo2 : Int) != mo2) = false := by simp
  have b4 : (ok2 != ok2) = false := by simp
  go_wp2_with fail
  go_loopw [61] (fun i wr => ∃ (k : Nat) (W : World), W = wr ∧ k ≤ n ∧ i = .int .i64 k ∧ Kept (fun _ => False) w6 W) (fun i _ => n - (intOf i).toNat)
  case atStart => exact ⟨0, _, rfl, Nat.zero_le _, rfl, Kept.refl _ _⟩
  case round =>
    obtain ⟨k, W, rfl, hk, rfl, hK⟩ := hrel
    have HKW := Lib.hid hK
    clear hK
    by_cases hkl : k < n
    · have hkl' : k < l.length := by have := HN.out; omega
      have hcx : W.cell? ⟨g, k, none⟩ = some (.bool (metB l k)) := by
        rw [(HKW.out.blk HG6.out (fun h => h)).cell, boolsV_get, metL_get HRB.out hkl']
        rfl
      have hcy : W.cell? ⟨g2, k, none⟩ = some (.bool (metB l k)) := by
        rw [(HKW.out.blk HX6.out (fun h => h)).cell, boolsV_get, metL_get HRB.out hkl']
        rfl
      generalize metB l k = mb at *
      cases mb
      all_goals
        go_wp2_with fail
        exact ⟨⟨k + 1, _, rfl, hkl, rfl, HKW.out⟩, by simp [intOf]; omega⟩
    · have hkn : k = n := by omega
      subst hkn
      go_wp2_with fail
      go_ret
      exact ⟨rfl, HK6.out.trans HKW.out⟩

end Go.Proofs.YtapmechbliofeaaDoor
