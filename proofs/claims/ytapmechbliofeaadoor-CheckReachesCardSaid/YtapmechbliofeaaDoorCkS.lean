/- Layer 5 (check): the document's Leads and Reach. -/
import Derived.Test.YtapmechbliofeaaDoorCkR
import Derived.Test.YtapmechbliofeaaDoorCkN
namespace Go.Proofs.YtapmechbliofeaaDoor
open Go.RowKit

set_option maxRecDepth 100000 in
set_option maxHeartbeats 4000000 in
theorem refLeads_calls (w : World) (A : Option Addr) (n c : Nat) (l : List InsD) (k j : Nat) (d : InsD) (hd : l[k]? = some d) (hn : l.length = n) (hl : InsAt w A l) (hk : k < 300) (hj : j < 300) :
    Calls Tryd.prog 25 #[.slice A n c, .int .i64 (k : Int), .int .i64 (j : Int)] w fun e w' => e = .returned (.bool (leadsB d k j)) ∧ w = w' := by
  have hkl := (List.getElem?_eq_some_iff.1 hd).1
  have hkn : k < n := by omega
  obtain ⟨sb, so, hA, hsb, d0, d1, d2, d3, d4⟩ := ins_cells hl hkl
  have hdd : l[k] = d := (List.getElem?_eq_some_iff.1 hd).2
  rw [hdd] at d0 d4
  subst hA
  clear d1 d2 d3 hl hn hd hdd hkl
  obtain ⟨op, a, b, cc, imm⟩ := d
  simp only at *
  by_cases h20 : op = 20 ∨ op = 21
  · have e : leadsB ⟨op, a, b, cc, imm⟩ k j = false := by unfold leadsB; rw [decide_eq_true h20]; rfl
    rw [e]
    clear e
    rcases h20 with rfl | rfl
    all_goals
      go_enter Tryd.func25, Tryd.ntmps25
      go_wp2_with fail
      go_ret
      exact ⟨rfl, rfl⟩
  have n20 : (op == 20) = false := by simp; omega
  have n21 : (op == 21) = false := by simp; omega
  have HE : Hid (leadsB ⟨op, a, b, cc, imm⟩ k j = ((decide (op ≠ 17) && decide (j = k + 1)) || (decide (17 ≤ op ∧ op ≤ 19) && decide ((j : Int) = imm)))) := Lib.hid (by unfold leadsB; rw [decide_eq_false h20]; rfl)
  by_cases h17 : op = 17
  · subst h17
    by_cases him : (j : Int) = imm
    · have e : leadsB ⟨17, a, b, cc, imm⟩ k j = true := by rw [HE.out]; simp [him]
      rw [e]
      clear e HE n20 n21 h20
      have hb : ((j : Int) == imm) = true := beq_iff_eq.2 him
      clear him
      go_enter Tryd.func25, Tryd.ntmps25
      go_wp2_with fail
      refine (refGoes_yes _ (by omega) (by omega) _).mono ?_
      rintro e w' ⟨rfl, rfl⟩
      go_wp2_with fail
      go_ret
      exact ⟨rfl, rfl⟩
    · have e : leadsB ⟨17, a, b, cc, imm⟩ k j = false := by rw [HE.out]; simp [him]
      rw [e]
      clear e HE n20 n21 h20
      have hb : ((j : Int) == imm) = false := beq_eq_false_iff_ne.2 him
      clear him
      go_enter Tryd.func25, Tryd.ntmps25
      go_wp2_with fail
      refine (refGoes_yes _ (by omega) (by omega) _).mono ?_
      rintro e w' ⟨rfl, rfl⟩
      go_wp2_with fail
      go_ret
      exact ⟨rfl, rfl⟩
  have n17 : (op == 17) = false := by simpa using h17
  have m17 : (op != 17) = true := bne_iff_ne.2 h17
  by_cases hjk : j = k + 1
  · have e : leadsB ⟨op, a, b, cc, imm⟩ k j = true := by rw [HE.out]; simp [h17, hjk]
    rw [e]
    clear e HE
    have hb : ((j : Int) == (k : Int) + 1) = true := beq_iff_eq.2 (by omega)
    clear hjk
    go_enter Tryd.func25, Tryd.ntmps25
    go_wp2_with fail
    go_ret
    exact ⟨rfl, rfl⟩
  have hb : ((j : Int) == (k : Int) + 1) = false := beq_eq_false_iff_ne.2 (by omega)
  have HE2 : Hid (leadsB ⟨op, a, b, cc, imm⟩ k j = (decide (17 ≤ op ∧ op ≤ 19) && decide ((j : Int) = imm))) := Lib.hid (by rw [HE.out]; simp [hjk])
  clear HE hjk
  by_cases ho : 17 ≤ op ∧ op ≤ 19
  · obtain ⟨o1, o2⟩ := ho
    by_cases him : (j : Int) = imm
    · have e : leadsB ⟨op, a, b, cc, imm⟩ k j = true := by rw [HE2.out]; simp [o1, o2, him]
      rw [e]
      clear e HE2
      have hbi : ((j : Int) == imm) = true := beq_iff_eq.2 him
      clear him
      go_enter Tryd.func25, Tryd.ntmps25
      go_wp2_with fail
      refine (refGoes_yes _ o1 o2 _).mono ?_
      rintro e w' ⟨rfl, rfl⟩
      go_wp2_with fail
      go_ret
      exact ⟨rfl, rfl⟩
    · have e : leadsB ⟨op, a, b, cc, imm⟩ k j = false := by rw [HE2.out]; simp [him]
      rw [e]
      clear e HE2
      have hbi : ((j : Int) == imm) = false := beq_eq_false_iff_ne.2 him
      clear him
      go_enter Tryd.func25, Tryd.ntmps25
      go_wp2_with fail
      refine (refGoes_yes _ o1 o2 _).mono ?_
      rintro e w' ⟨rfl, rfl⟩
      go_wp2_with fail
      go_ret
      exact ⟨rfl, rfl⟩
  · have e : leadsB ⟨op, a, b, cc, imm⟩ k j = false := by rw [HE2.out]; simp [ho]
    rw [e]
    clear e HE2
    go_enter Tryd.func25, Tryd.ntmps25
    go_wp2_with fail
    refine (refGoes_no _ (by omega) _).mono ?_
    rintro e w' ⟨rfl, rfl⟩
    go_wp2_with fail
    go_ret
    exact ⟨rfl, rfl⟩

def BW (w W : World) (g : Nat) (M : List Bool) : Prop := Blk W g 4 (boolsV M) ∧ Kept (fun _ => False) w W ∧ w.heap.size ≤ g

set_option maxRecDepth 100000 in
set_option maxHeartbeats 8000000 in
theorem refReach_calls (w : World) (A : Option Addr) (n c : Nat) (l : List InsD) (hn : l.length = n) (hl : InsAt w A l) (hi : ∀ d ∈ l, 0 ≤ d.imm ∧ d.imm < 18446744073709551616) (hr : rightB l = true) :
    Calls Tryd.prog 19 #[.slice A n c] w (ReachPost w l) := by
  have HI := Lib.hid hi
  have HN := Lib.hid hn
  have HL := Lib.hid hl
  have HRB := Lib.hid hr
  have HRP := Lib.hid ((rightB_iff l).1 hr)
  have h0 : 0 < n := by rw [← HN.out]; exact HRP.out.pos
  have h256 : n ≤ 256 := by rw [← HN.out]; exact HRP.out.le
  clear hi hn hl hr
  obtain ⟨i0, hi0, hz0, hz1, hz2⟩ := info_parts' infoBool
  have hmk : ∀ W : World, (Instr.makeSlice 32 (.int .i64 (n : Int)) (.int .i64 (n : Int))).run Tryd.prog W = .ok (.slice (some ⟨W.heap.size, 0, none⟩) n n) (W.alloc (.cells (boolsV (List.replicate n false)) 4)) := fun W => by
    have h := run_make (P := Tryd.prog) W 32 4 i0 _ Tryd.underlying32 hi0 hz0 .i64 .i64 (n : Int) (n : Int) (by omega) (by omega) (by rw [hz2]; omega) (by omega)
    have e : (n : Int).toNat = n := by omega
    rw [e, hz1, bools_made] at h
    exact h
  have HB1 := Lib.hid (Blk.new w 4 (boolsV (List.replicate n false)))
  have hc1 : (w.alloc (.cells (boolsV (List.replicate n false)) 4)).cell? ⟨w.heap.size, 0, none⟩ = some (.bool false) := by
    rw [HB1.out.cell, boolsV_get]
    simp [h0]
  have hf1 : (w.alloc (.cells (boolsV (List.replicate n false)) 4)).frozen? ⟨w.heap.size, 0, none⟩ = false := HB1.out.frozen 0
  generalize hB : boolsV (List.replicate n false) = Bs at *
  have HBs := Lib.hid hB
  clear hB
  have HSt : Hid (BW w (w.alloc (.cells (Bs.setIfInBounds 0 (.bool true)) 4)) w.heap.size ((List.replicate n false).set 0 true)) := Lib.hid ⟨by rw [← boolsV_set, HBs.out]; exact Blk.new _ _ _, (Kept.refl _ _).alloc _, Nat.le_refl _⟩
  have HF := Lib.hid (RBase.first HRP.out)
  rw [HN.out] at HF
  go_enter Tryd.func19, Tryd.ntmps19
  go_wp2_with fail
  clear hc1 hf1 HB1 hmk hi0 hz0 hz1 hz2
  generalize w.heap.size = g at *
  go_loopw [4] (fun rv wr => ∃ (r : Nat) (M : List Bool) (W : World), W = wr ∧ r ≤ n ∧ rv = .int .i64 r ∧ RBase l M ∧ RCnt l M r ∧ BW w W g M) (fun rv _ => n - (intOf rv).toNat)
  case atStart => exact ⟨0, _, _, rfl, Nat.zero_le _, rfl, HF.out, RCnt.first HF.out, HSt.out⟩
  case round =>
    obtain ⟨r, M0, wr, rfl, hrn, rfl, hB0, hC0, hW0⟩ := hrel
    have HB0 := Lib.hid hB0
    have HC0 := Lib.hid hC0
    have HW0 := Lib.hid hW0
    clear hB0 hC0 hW0
    by_cases hlt : r < n
    · go_wp2_with fail
      go_loopw [5] (fun kv wr1 => ∃ (k : Nat) (M : List Bool) (W : World), W = wr1 ∧ k ≤ n ∧ kv = .int .i64 k ∧ RStep l M0 M k 0 ∧ BW w W g M) (fun kv _ => n - (intOf kv).toNat)
      case atStart => exact ⟨0, M0, _, rfl, Nat.zero_le _, rfl, RStep.first HB0.out, HW0.out⟩
      case round =>
        obtain ⟨k, M1, w1, rfl, hkn, rfl, hS1, hW1⟩ := hrel
        have HS1 := Lib.hid hS1
        have HW1 := Lib.hid hW1
        clear hS1 hW1
        by_cases hk : k < n
        · have hkl : k < l.length := by have := HN.out; omega
          have HD := Lib.hid (List.getElem?_eq_getElem hkl)
          have HIM := Lib.hid (HI.out l[k] (List.getElem_mem _)).1
          generalize l[k] = d at *
          go_wp2_with fail
          go_loopw [6] (fun jv wr2 => ∃ (j : Nat) (M : List Bool) (W : World), W = wr2 ∧ j ≤ n ∧ jv = .int .i64 j ∧ RStep l M0 M k j ∧ BW w W g M) (fun jv _ => n - (intOf jv).toNat)
          case atStart => exact ⟨0, M1, _, rfl, Nat.zero_le _, rfl, HS1.out, HW1.out⟩
          case round =>
            obtain ⟨j, M, w2, rfl, hjn, rfl, hS, hW⟩ := hrel
            by_cases hj : j < n
            · have hjM : j < M.length := by rw [hS.base.len, HN.out]; exact hj
              have hkM : k < M.length := by rw [hS.base.len, HN.out]; exact hk
              have hMj : M[j]? = some M[j] := List.getElem?_eq_getElem hjM
              have hMk : M[k]? = some M[k] := List.getElem?_eq_getElem hkM
              have hcj : w2.cell? ⟨g, j, none⟩ = some (.bool M[j]) := by rw [hW.1.cell, boolsV_get, hMj]; rfl
              have hck : w2.cell? ⟨g, k, none⟩ = some (.bool M[k]) := by rw [hW.1.cell, boolsV_get, hMk]; rfl
              have hfj := hW.1.frozen j
              have HNX := Lib.hid (hS.put HD.out HIM.out hMj hMk)
              have HST : Hid (∀ b : Bool, BW w (w2.setCell ⟨g, j, none⟩ (.bool b)) g (M.set j b)) := Lib.hid (fun b => ⟨by rw [← boolsV_set]; exact hW.1.set_ j _, hW.2.1.setCell (.inr hW.2.2) _, hW.2.2⟩)
              have HLd := Lib.hid (refLeads_calls w2 A n c l k j d HD.out HN.out (HL.out.kept hW.2.1) (by omega) (by omega))
              generalize M[j] = x at *
              generalize M[k] = y at *
              clear hS hW hMj hMk
              cases x
              · cases y
                · go_wp2_with fail
                  exact ⟨⟨j + 1, _, _, rfl, hj, rfl, HNX.out, HST.out false⟩, by simp [intOf]; omega⟩
                · go_wp2_with fail
                  refine HLd.out.mono ?_
                  rintro e w' ⟨rfl, rfl⟩
                  generalize leadsB d k j = lb at *
                  go_wp2_with fail
                  exact ⟨⟨j + 1, _, _, rfl, hj, rfl, HNX.out, by simpa using HST.out lb⟩, by simp [intOf]; omega⟩
              · go_wp2_with fail
                exact ⟨⟨j + 1, _, _, rfl, hj, rfl, HNX.out, by simpa using HST.out true⟩, by simp [intOf]; omega⟩
            · have hjn' : j = n := by omega
              subst hjn'
              have HSR := Lib.hid (RStep.row (by rw [HN.out]; exact hS) HRP.out)
              have HWR := Lib.hid hW
              clear hS hW
              go_wp2_with fail
              exact ⟨⟨k + 1, M, _, rfl, hk, rfl, HSR.out, HWR.out⟩, by simp [intOf]; omega⟩
        · have hkn' : k = n := by omega
          subst hkn'
          have HCN := Lib.hid (RCnt.next HRP.out HC0.out HB0.out (by rw [HN.out]; exact HS1.out))
          go_wp2_with fail
          exact ⟨⟨r + 1, M1, _, rfl, hlt, rfl, HS1.out.base, HCN.out, HW1.out⟩, by simp [intOf]; omega⟩
    · have hrn' : r = n := by omega
      subst hrn'
      go_wp2_with fail
      go_ret
      refine ⟨HW0.out.2.1, .inl ⟨HRB.out, g, ?_, HW0.out.2.2, ?_⟩⟩
      · rw [HN.out]; rfl
      · rw [← RCnt.all (by rw [HN.out]; exact HC0.out) HB0.out HRB.out]
        exact HW0.out.1

end Go.Proofs.YtapmechbliofeaaDoor
