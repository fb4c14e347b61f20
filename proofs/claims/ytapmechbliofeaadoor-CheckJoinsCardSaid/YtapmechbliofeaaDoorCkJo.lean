/- Layer 5 (check): the walk of CheckJoins. -/
import Derived.Test.YtapmechbliofeaaDoorCkJn
import Derived.Test.YtapmechbliofeaaDoorCkQ
import Derived.Deep.CutRange
import Derived.Deep.DeepCutAuto
import Derived.BigQuiet
namespace Go.Proofs.YtapmechbliofeaaDoor
open Go.RowKit

theorem both_succ {a b : List InsD} {t : Nat} (ht : t < b.length) : a ++ (b.take (t + 1)).map (mv a.length) = (a ++ (b.take t).map (mv a.length)) ++ [mv a.length b[t]] := by
  rw [List.take_succ_eq_append_getElem ht, List.map_append, List.append_assoc]
  rfl

theorem ins_lit (W : World) (k : Nat) (hk : k = W.heap.size) (d : InsD) : InsAt (W.alloc (.cells #[.int .i64 d.op, .int .i64 d.a, .int .i64 d.b, .int .i64 d.c, .int .u64 d.imm] 38)) (some ⟨k, 0, none⟩) [d] := by
  subst hk
  exact InsAt.of_own (l := [d]) (World.ownsRow_lit (base := 0) (e := 38) (size := 5) W #[.int .i64 d.op, .int .i64 d.a, .int .i64 d.b, .int .i64 d.c, .int .u64 d.imm] 1 (Nat.zero_le _) (by decide) rfl) rfl

set_option maxRecDepth 100000 in
set_option maxHeartbeats 8000000 in
theorem joins_walk (A : Option Addr) (n c : Nat) (a : List InsD) (B : Option Addr) (m q : Nat) (b : List InsD) (w : World) (hn : a.length = n) (hnm : n ≤ maxLen) (ha : InsAt w A a) (hai : ∀ d ∈ a, 0 ≤ d.imm ∧ d.imm < 18446744073709551616)
    (hm : b.length = m) (hmm : m ≤ maxLen) (hb : InsAt w B b) (hbi : ∀ d ∈ b, 0 ≤ d.imm ∧ d.imm < 18446744073709551616) (T : Tabs w) :
    Calls Tryd.prog 7 #[.slice A n c, .slice B m q] w (Good w) := by
  have HNM := Lib.hid hnm
  have HMM := Lib.hid hmm
  unfold maxLen at hnm hmm
  have HT := Lib.hid T
  have HA := Lib.hid (⟨hn, ha, hai⟩ : _ ∧ _ ∧ _)
  have HB := Lib.hid (⟨hm, hb, hbi⟩ : _ ∧ _ ∧ _)
  clear T hn ha hai hm hb hbi
  by_cases h1 : 40 < n
  · go_enter Tryd.func7, Tryd.ntmps7
    go_wp2_with fail
    refine (alive_calls _ HT.out).mono ?_
    rintro e w1 ⟨rfl, K1⟩
    go_wp2_with fail
    go_ret
    exact ⟨rfl, K1⟩
  have h1' : n ≤ 40 := by omega
  by_cases h2 : 40 < m
  · go_enter Tryd.func7, Tryd.ntmps7
    go_wp2_with fail
    refine (alive_calls _ HT.out).mono ?_
    rintro e w1 ⟨rfl, K1⟩
    go_wp2_with fail
    go_ret
    exact ⟨rfl, K1⟩
  have h2' : m ≤ 40 := by omega
  clear h1 h2 hnm hmm
  have HRA := Lib.hid (fun (W : World) (k : Kept (fun _ => False) w W) => right_calls W A n c a HA.out.1 HNM.out (HA.out.2.1.kept k) HA.out.2.2 (HT.out.kept k))
  have HRB := Lib.hid (fun (W : World) (k : Kept (fun _ => False) w W) => right_calls W B m q b HB.out.1 HMM.out (HB.out.2.1.kept k) HB.out.2.2 (HT.out.kept k))
  cases hra : rightB a
  · rw [hra] at HRA
    clear hra
    go_enter Tryd.func7, Tryd.ntmps7
    go_wp2_with fail
    refine (alive_calls _ HT.out).mono ?_
    rintro e w1 ⟨rfl, K1⟩
    have HK1 := Lib.hid K1
    clear K1
    go_wp2_with fail
    refine (HRA.out _ HK1.out).mono ?_
    rintro e w2 ⟨rfl, K2⟩
    go_wp2_with fail
    go_ret
    exact ⟨rfl, HK1.out.trans K2⟩
  have hra0 := hra
  rw [hra] at HRA
  have HPA := Lib.hid ((rightB_iff a).1 hra0)
  have HRA1 := Lib.hid hra0
  clear hra hra0
  cases hrb : rightB b
  · rw [hrb] at HRB
    clear hrb
    go_enter Tryd.func7, Tryd.ntmps7
    go_wp2_with fail
    refine (alive_calls _ HT.out).mono ?_
    rintro e w1 ⟨rfl, K1⟩
    have HK1 := Lib.hid K1
    clear K1
    go_wp2_with fail
    refine (HRA.out _ HK1.out).mono ?_
    rintro e w2 ⟨rfl, K2⟩
    have HK2 := Lib.hid (HK1.out.trans K2)
    clear K2
    go_wp2_with fail
    refine (HRB.out _ HK2.out).mono ?_
    rintro e w3 ⟨rfl, K3⟩
    go_wp2_with fail
    go_ret
    exact ⟨rfl, HK2.out.trans K3⟩
  have hrb0 := hrb
  rw [hrb] at HRB
  have HPB := Lib.hid ((rightB_iff b).1 hrb0)
  clear hrb hrb0
  have HSum : Hid (a.length + b.length ≤ 256) := Lib.hid (by have := HA.out.1; have := HB.out.1; omega)
  go_enter Tryd.func7, Tryd.ntmps7
  go_wp2_with fail
  refine (alive_calls _ HT.out).mono ?_
  rintro e w1 ⟨rfl, K1⟩
  have HK1 := Lib.hid K1
  clear K1
  go_wp2_with fail
  refine (HRA.out _ HK1.out).mono ?_
  rintro e w2 ⟨rfl, K2⟩
  have HK2 := Lib.hid (HK1.out.trans K2)
  clear K2
  go_wp2_with fail
  refine (HRB.out _ HK2.out).mono ?_
  rintro e w3 ⟨rfl, K3⟩
  have HK3 := Lib.hid (HK2.out.trans K3)
  clear K3
  have HOE := Lib.hid ((World.ownsRow_lit (base := 0) (e := 38) (size := 5) w3 #[] 0 (Nat.zero_le _) (by decide) rfl))
  go_upto_region 6 with (at_builtin; go_loud (refine wpList_append_ins rfl (.tmp 35) (.tmp 36) rfl w3.heap.size 0 0 [] rfl HOE.out A n c a rfl HA.out.1 (HA.out.2.1.kept (HK3.out.alloc _)) (by omega) ?_); intro g4 q4 w4 ho4 hg4 hat4; rw [Nat.zero_add] at ho4)
  have hK4 : Kept (fun _ => False) w w4 := Kept.push (HK3.out.alloc _) hg4 (fun z hz => by injection hz with hz; have := HK3.out.size; omega)
  have hge4 : w.heap.size ≤ g4 := by
    have := HK3.out.size
    rcases hat4 with h | h
    · omega
    · simp at h; omega
  rw [List.nil_append] at ho4
  have HS4 := Lib.hid (⟨ho4, hge4, hK4⟩ : _ ∧ _ ∧ _)
  clear hK4 hge4 ho4 hg4 hat4
  go_wp2_with fail
  go_loopw [5, 40] (fun v i wr => ∃ (t g p : Nat) (W : World), W = wr ∧ t ≤ m ∧ i = .int .i64 t ∧ v = .slice (some ⟨g, 0, none⟩) (n + t) p ∧ W.ownsRow 0 38 5 (.slice (some ⟨g, 0, none⟩) (n + t) p) (n + t) (flatI (a ++ (b.take t).map (mv a.length))) ∧ w.heap.size ≤ g ∧ Kept (fun _ => False) w W) (fun _ i _ => m - (intOf i).toNat)
  case atStart => exact ⟨0, g4, q4, _, rfl, Nat.zero_le _, rfl, rfl, by simpa using HS4.out.1, HS4.out.2.1, HS4.out.2.2⟩
  case round =>
    obtain ⟨t, g, p, wr, rfl, ht, rfl, rfl, hO, hG, hK⟩ := hrel
    have HO := Lib.hid hO
    have HG := Lib.hid hG
    have HK := Lib.hid hK
    clear hO hG hK
    by_cases hlt : t < m
    · have hlt' : t < b.length := by have := HB.out.1; omega
      obtain ⟨sb, so, hBe, hsb, c0, c1, c2, c3, c4⟩ := ins_cells (HB.out.2.1.kept HK.out) hlt'
      subst hBe
      have HSC := Lib.hid (both_succ (a := a) hlt')
      have hsm := (right_small HPB.out (List.getElem?_eq_getElem hlt')).2
      obtain ⟨i0, i1⟩ := HB.out.2.2 b[t] (List.getElem_mem _)
      generalize b[t] = d at *
      obtain ⟨op, ra, rb, rc, imm⟩ := d
      simp only at *
      by_cases ho : 17 ≤ op ∧ op ≤ 19
      · obtain ⟨o1, o2⟩ := ho
        have i2 := hsm (by omega)
        have HMV : Hid (mv a.length ⟨op, ra, rb, rc, imm⟩ = ⟨op, ra, rb, rc, imm + n⟩) := Lib.hid (by unfold mv; rw [if_pos ⟨o1, o2⟩, HA.out.1])
        clear hsm
        have HRD := Lib.hid (fun W (h : W.heap.size = wr.heap.size + 1) => ins_lit W (wr.heap.size + 1) h.symm ⟨op, ra, rb, rc, imm + n⟩)
        go_wp2_with (at_builtin; go_loud (refine wpList_append_ins rfl (.tmp 59) (.tmp 61) rfl g (n + t) p _ rfl ((HO.out.alloc _).alloc _) (some ⟨wr.heap.size + 1, 0, none⟩) 1 1 [⟨op, ra, rb, rc, imm + n⟩] rfl rfl (HRD.out (wr.alloc _) (by simp)) (by omega) ?_); intro g5 q5 w5 ho5 hg5 hat5)
        have hK5 : Kept (fun _ => False) w w5 := Kept.push ((HK.out.alloc _).alloc _) hg5 (fun z hz => by injection hz with hz; have := HG.out; omega)
        have hge5 : w.heap.size ≤ g5 := by
          have := HG.out
          have := HK.out.size
          rcases hat5 with h | h
          · omega
          · simp at h; omega
        rw [← flatI_append] at ho5
        exact ⟨⟨t + 1, g5, q5, w5, rfl, hlt, rfl, rfl, by rw [HSC.out, HMV.out]; exact ho5, hge5, hK5⟩, by simp [intOf]; omega⟩
      · have HMV : Hid (mv a.length ⟨op, ra, rb, rc, imm⟩ = ⟨op, ra, rb, rc, imm⟩) := Lib.hid (by unfold mv; rw [if_neg ho])
        have HRD := Lib.hid (fun W (h : W.heap.size = wr.heap.size + 1) => ins_lit W (wr.heap.size + 1) h.symm ⟨op, ra, rb, rc, imm⟩)
        clear hsm
        rcases (show op < 17 ∨ 19 < op by omega) with ho' | ho'
        all_goals
          clear ho
          go_wp2_with (at_builtin; go_loud (refine wpList_append_ins rfl (.tmp 59) (.tmp 61) rfl g (n + t) p _ rfl ((HO.out.alloc _).alloc _) (some ⟨wr.heap.size + 1, 0, none⟩) 1 1 [⟨op, ra, rb, rc, imm⟩] rfl rfl (HRD.out (wr.alloc _) (by simp)) (by omega) ?_); intro g5 q5 w5 ho5 hg5 hat5)
          have hK5 : Kept (fun _ => False) w w5 := Kept.push ((HK.out.alloc _).alloc _) hg5 (fun z hz => by injection hz with hz; have := HG.out; omega)
          have hge5 : w.heap.size ≤ g5 := by
            have := HG.out
            have := HK.out.size
            rcases hat5 with h | h
            · omega
            · simp at h; omega
          rw [← flatI_append] at ho5
          exact ⟨⟨t + 1, g5, q5, w5, rfl, hlt, rfl, rfl, by rw [HSC.out, HMV.out]; exact ho5, hge5, hK5⟩, by simp [intOf]; omega⟩
    · have htm : t = m := by omega
      subst htm
      have HO2 : Hid (wr.ownsRow 0 38 5 (.slice (some ⟨g, 0, none⟩) (n + t) p) (n + t) (flatI (bothL a b))) := Lib.hid (by
        have h := HO.out
        rw [List.take_of_length_le (by have := HB.out.1; omega)] at h
        exact h)
      have hBl : (bothL a b).length = n + t := by rw [bothL_length, HA.out.1, HB.out.1]
      have HBL := Lib.hid hBl
      have HBI : Hid (∀ d ∈ bothL a b, 0 ≤ d.imm ∧ d.imm < 18446744073709551616) := Lib.hid (fun d hd => by
        unfold bothL at hd
        rcases List.mem_append.1 hd with h | h
        · exact HA.out.2.2 d h
        · obtain ⟨d', hd', rfl⟩ := List.mem_map.1 h
          obtain ⟨k, hk⟩ := List.getElem?_of_mem hd'
          have hs := (right_small HPB.out hk).2
          obtain ⟨j0, j1⟩ := HB.out.2.2 d' hd'
          unfold mv
          split
          · rename_i ho
            have := hs (by omega)
            have := HA.out.1
            simp only
            omega
          · exact ⟨j0, j1⟩)
      have HIA := Lib.hid (InsAt.of_own HO2.out hBl)
      have HPBo := Lib.hid (both_right HPA.out HPB.out HSum.out)
      have hmx : n + t ≤ maxLen := by unfold maxLen; omega
      have HMX := Lib.hid hmx
      clear hBl hmx
      go_upto_region 13 with fail
      go_cut [77] (fun s wx => s = .bool false ∧ Kept (fun _ => False) wr wx)
      case first =>
        go_wp2_with fail
        refine (right_calls _ _ (n + t) p (bothL a b) HBL.out HMX.out HIA.out HBI.out (HT.out.kept HK.out)).mono ?_
        rintro e w6 ⟨rfl, K6⟩
        rw [(rightB_iff _).2 HPBo.out]
        have HK6 := Lib.hid K6
        clear K6
        go_wp2_with fail
        refine (reads_calls _ _ (n + t) p (bothL a b) HBL.out HMX.out (HIA.out.kept HK6.out) HBI.out (HT.out.kept (HK.out.trans HK6.out))).mono ?_
        rintro e w7 ⟨rfl, K7⟩
        rw [both_reads HPA.out HPB.out HSum.out]
        have HK7 := Lib.hid (HK6.out.trans K7)
        clear K7
        have HRa := Lib.hid (reads_calls _ A n c a HA.out.1 HNM.out (HA.out.2.1.kept (HK.out.trans HK7.out)) HA.out.2.2 (HT.out.kept (HK.out.trans HK7.out)))
        have HRb := Lib.hid (fun (W : World) (k : Kept (fun _ => False) w W) => reads_calls W B t q b HB.out.1 HMM.out (HB.out.2.1.kept k) HB.out.2.2 (HT.out.kept k))
        generalize readsB a = ra at *
        generalize readsB b = rb at *
        cases ra
        · have e : (false && rb) = false := rfl
          rw [e]
          clear e
          go_wp2_with fail
          refine HRa.out.mono ?_
          rintro e w8 ⟨rfl, K8⟩
          have HK8 := Lib.hid (HK7.out.trans K8)
          clear K8
          go_wp2_with fail
          go_meet
          exact ⟨rfl, HK8.out⟩
        · have e : (true && rb) = rb := Bool.true_and rb
          rw [e]
          clear e
          go_wp2_with fail
          refine HRa.out.mono ?_
          rintro e w8 ⟨rfl, K8⟩
          have HK8 := Lib.hid (HK7.out.trans K8)
          clear K8
          go_wp2_with fail
          refine (HRb.out _ (HK.out.trans HK8.out)).mono ?_
          rintro e w9 ⟨rfl, K9⟩
          have HK9 := Lib.hid (HK8.out.trans K9)
          clear K9
          have hbb : (rb == rb) = true := beq_self_eq_true _
          have hbn : (rb != rb) = false := by simp
          go_wp2_with fail
          go_meet
          exact ⟨rfl, HK9.out⟩
      case rest =>
      obtain ⟨rfl, hKx⟩ := hcut
      have HKx := Lib.hid (HK.out.trans hKx)
      have HIx := Lib.hid (HIA.out.kept hKx)
      clear hKx
      go_wp2_with fail
      refine (reach_calls _ A n c a HA.out.1 HNM.out (HA.out.2.1.kept HKx.out) HA.out.2.2 (HT.out.kept HKx.out)).mono ?_
      intro e w6 hE
      obtain ⟨K6, ⟨_, r, rfl, _, hrB⟩ | ⟨h, _⟩⟩ := hE
      case inr =>
        rw [HRA1.out] at h
        cases h
      have HK6 := Lib.hid (HKx.out.trans K6)
      have HI6 := Lib.hid (HIx.out.kept K6)
      have HR6 := Lib.hid hrB
      rw [HA.out.1]
      clear K6 hrB
      go_wp2_with fail
      refine (reach_calls _ _ (n + t) p (bothL a b) HBL.out HMX.out HI6.out HBI.out (HT.out.kept HK6.out)).mono ?_
      intro e w7 hE
      obtain ⟨K7, ⟨_, r2, rfl, _, hrB2⟩ | ⟨h, _⟩⟩ := hE
      case inr =>
        rw [(rightB_iff _).2 HPBo.out] at h
        cases h
      have HK7 := Lib.hid (HK6.out.trans K7)
      have HI7 := Lib.hid (HI6.out.kept K7)
      have HR7 := Lib.hid (K7.blk HR6.out (fun h => h))
      have HS7 := Lib.hid hrB2
      rw [HBL.out]
      clear K7 hrB2
      go_wp2_with fail
      refine (longest_calls _ A n c a HA.out.1 HNM.out (HA.out.2.1.kept HK7.out) HA.out.2.2 (HT.out.kept HK7.out)).mono ?_
      intro e w8 hE
      obtain ⟨K8, mo, ok, rfl, hLo, _⟩ := hE
      have HK8 := Lib.hid (HK7.out.trans K8)
      have HI8 := Lib.hid (HI7.out.kept K8)
      have HR8 := Lib.hid (K8.blk HR7.out (fun h => h))
      have HS8 := Lib.hid (K8.blk HS7.out (fun h => h))
      have HLo := Lib.hid (both_long HPA.out HPB.out HSum.out hLo)
      clear K8 hLo
      go_wp2_with fail
      refine (longest_calls _ _ (n + t) p (bothL a b) HBL.out HMX.out HI8.out HBI.out (HT.out.kept HK8.out)).mono ?_
      intro e w9 hE
      obtain ⟨K9, mo2, ok2, rfl, hLo2, _⟩ := hE
      obtain ⟨rfl, rfl⟩ := hLo2.unique HLo.out
      have HK9 := Lib.hid (HK8.out.trans K9)
      have HR9 := Lib.hid (K9.blk HR8.out (fun h => h))
      have HS9 := Lib.hid (K9.blk HS8.out (fun h => h))
      clear K9 hLo2
      have b1 : ((n : Int) != n) = false := by simp
      have b2 : (((n + t : Nat) : Int) != ((n + t : Nat) : Int)) = false := by simp
      have b3 : ((mo2 : Int) != mo2) = false := by simp
      have b4 : (ok2 != ok2) = false := by simp
      have HRBo := Lib.hid ((rightB_iff _).2 HPBo.out)
      go_wp2_with fail
      go_loopw [116] (fun i wr' => ∃ (k : Nat) (W : World), W = wr' ∧ k ≤ n + t ∧ i = .int .i64 k ∧ Kept (fun _ => False) w9 W) (fun i _ => n + t - (intOf i).toNat)
      case atStart => exact ⟨0, _, rfl, Nat.zero_le _, rfl, Kept.refl _ _⟩
      case round =>
        obtain ⟨k, W, rfl, hk, rfl, hK⟩ := hrel
        have HKW := Lib.hid hK
        clear hK
        by_cases hkl : k < n + t
        · have hcy : W.cell? ⟨r2, k, none⟩ = some (.bool (metB a k)) := by
            rw [(HKW.out.blk HS9.out (fun h => h)).cell, boolsV_get, metL_get HRBo.out (by rw [HBL.out]; exact hkl), both_metB HPA.out]
            rfl
          by_cases hka : k < n
          · have hcx : W.cell? ⟨r, k, none⟩ = some (.bool (metB a k)) := by
              rw [(HKW.out.blk HR9.out (fun h => h)).cell, boolsV_get, metL_get HRA1.out (by rw [HA.out.1]; exact hka)]
              rfl
            have hd : decide ((k : Int) < n) = true := decide_eq_true (by omega)
            generalize metB a k = mb at *
            cases mb
            all_goals
              go_wp2_with fail
              go_quiet (fail)
              go_wp2_with fail
              exact ⟨⟨k + 1, _, rfl, hkl, rfl, HKW.out.drewN _⟩, by simp [intOf]; omega⟩
          · have hd : decide ((k : Int) < n) = false := decide_eq_false (by omega)
            rw [metB_out HPA.out (by rw [HA.out.1]; omega)] at hcy
            go_wp2_with fail
            go_quiet (fail)
            go_wp2_with fail
            exact ⟨⟨k + 1, _, rfl, hkl, rfl, HKW.out.drewN _⟩, by simp [intOf]; omega⟩
        · have hkn : k = n + t := by omega
          subst hkn
          go_wp2_with fail
          go_ret
          exact ⟨rfl, HK9.out.trans HKW.out⟩
end Go.Proofs.YtapmechbliofeaaDoor
