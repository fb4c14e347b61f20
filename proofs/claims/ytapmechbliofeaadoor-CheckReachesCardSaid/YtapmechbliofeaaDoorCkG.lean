/- Layer 5 (check): Reach. -/
import Derived.Test.YtapmechbliofeaaDoorCkF
namespace Go.Proofs.YtapmechbliofeaaDoor
open Go.RowKit

theorem right_small {l : List InsD} (h : RightP l) {k : Nat} {d : InsD} (hd : l[k]? = some d) : k < 300 ∧ (d.op = 17 ∨ d.op = 18 ∨ d.op = 19 → d.imm < 300) := by
  obtain ⟨hk, hw⟩ := right_at h hd
  have := h.le
  obtain ⟨h1, h2⟩ := wrongE_goal hw
  refine ⟨by omega, fun ho => ?_⟩
  rcases ho with ho | ho | ho
  · have := h1 (.inl ho); omega
  · have := h1 (.inr ho); omega
  · have := h2 ho; omega

set_option maxRecDepth 100000 in
set_option maxHeartbeats 8000000 in
theorem reach_calls (w : World) (A : Option Addr) (n c : Nat) (l : List InsD) (hn : l.length = n) (hm : n ≤ maxLen) (hl : InsAt w A l) (hi : ∀ d ∈ l, 0 ≤ d.imm ∧ d.imm < 18446744073709551616) (T : Tabs w) :
    Calls Tryd.prog 16 #[.slice A n c] w (ReachPost w l) := by
  have HR := Lib.hid (right_calls w A n c l hn hm hl hi T)
  have HI := Lib.hid hi
  have HN := Lib.hid hn
  have HL := Lib.hid hl
  clear hi hn hl T
  cases hr : rightB l
  · rw [hr] at HR
    have HRB := Lib.hid hr
    clear hr hm
    go_enter Tryd.func16, Tryd.ntmps16
    go_wp2_with fail
    refine HR.out.mono ?_
    rintro e w1 ⟨rfl, K1⟩
    go_wp2_with fail
    go_ret
    exact ⟨K1, .inr ⟨HRB.out, rfl⟩⟩
  rw [hr] at HR
  have HRB := Lib.hid hr
  have HRP := Lib.hid ((rightB_iff l).1 hr)
  have h0 : 0 < n := by rw [← HN.out]; exact HRP.out.pos
  have h256 : n ≤ 256 := by rw [← HN.out]; exact HRP.out.le
  clear hr hm
  obtain ⟨i0, hi0, hz0, hz1, hz2⟩ := info_parts' infoBool
  obtain ⟨j0, hj0, jz0, jz1, jz2⟩ := info_parts' infoInt
  have hmk : ∀ W : World, (Instr.makeSlice 32 (.int .i64 (n : Int)) (.int .i64 (n : Int))).run Tryd.prog W = .ok (.slice (some ⟨W.heap.size, 0, none⟩) n n) (W.alloc (.cells (boolsV (List.replicate n false)) 4)) := fun W => by
    have h := run_make (P := Tryd.prog) W 32 4 i0 _ Tryd.underlying32 hi0 hz0 .i64 .i64 (n : Int) (n : Int) (by omega) (by omega) (by rw [hz2]; omega) (by omega)
    have e : (n : Int).toNat = n := by omega
    rw [e, hz1, bools_made] at h
    exact h
  go_enter Tryd.func16, Tryd.ntmps16
  go_wp2_with fail
  refine HR.out.mono ?_
  rintro e w1 ⟨rfl, K1⟩
  have HK1 := Lib.hid K1
  have HB1 := Lib.hid (Blk.new w1 4 (boolsV (List.replicate n false)))
  have hc1 : (w1.alloc (.cells (boolsV (List.replicate n false)) 4)).cell? ⟨w1.heap.size, 0, none⟩ = some (.bool false) := by
    rw [HB1.out.cell, boolsV_get]
    simp [h0]
  have hf1 : (w1.alloc (.cells (boolsV (List.replicate n false)) 4)).frozen? ⟨w1.heap.size, 0, none⟩ = false := HB1.out.frozen 0
  clear K1
  generalize hB : boolsV (List.replicate n false) = Bs at *
  have HBs := Lib.hid hB
  clear hB
  go_wp2_with fail
  have hstart : RW w ((w1.alloc (.cells (Bs.setIfInBounds 0 (.bool true)) 4)).alloc (.cells #[Value.int .i64 0] 3)) w1.heap.size ((List.replicate n false).set 0 true) (.slice (some ⟨w1.heap.size + 1, 0, none⟩) 1 1) [0] := by
    refine ⟨?_, ?_, (HK1.out.alloc _).alloc _, HK1.out.size⟩
    · rw [← boolsV_set, HBs.out]
      exact (Blk.new _ _ _).alloc _
    · have h := World.ownsRow_lit (base := w1.heap.size + 1) (e := 3) (size := 1) (w1.alloc (.cells (Bs.setIfInBounds 0 (.bool true)) 4)) #[Value.int .i64 0] 1 (by simp) (by decide) rfl
      rw [show (w1.alloc (.cells (Bs.setIfInBounds 0 (.bool true)) 4)).heap.size = w1.heap.size + 1 by simp] at h
      exact h
  have HS := Lib.hid hstart
  have HF := Lib.hid (RIn.first HRP.out)
  rw [HN.out] at HF
  generalize w1.heap.size = gm at *
  clear hstart hc1 hf1 HB1
  go_loopw [4] (fun v wr => ∃ (M : List Bool) (q : List Nat) (W : World), W = wr ∧ RIn l M q ∧ RW w W gm M v q ∧ M.countP (fun b => !b) + q.length ≤ n) (fun v wr => unmet wr gm + lenOf v)
  case atStart => exact ⟨_, [0], _, rfl, HF.out, HS.out, by
    have h := count_add (M := List.replicate n false) (y := 0) (by simp [h0])
    have h2 := List.countP_le_length (p := fun b => !b) (l := List.replicate n false)
    simp only [List.length_replicate] at h2
    simp only [List.length_cons, List.length_nil]
    omega⟩
  case round =>
    obtain ⟨M, q, wr, rfl, hI, hW, hmu⟩ := hrel
    have HI1 := Lib.hid hI
    have HW1 := Lib.hid hW
    obtain ⟨Av, cv, rfl⟩ := own_form hW.own
    clear hI hW
    rcases List.eq_nil_or_concat q with hq | ⟨q', x, hq⟩
    · subst hq
      go_wp2_with fail
      go_ret
      refine ⟨HW1.out.kept, .inl ⟨HRB.out, _, ?_, HW1.out.new, ?_⟩⟩
      · rw [HN.out]; rfl
      · rw [← HI1.out.all HRB.out]
        exact HW1.out.met
    · rw [List.concat_eq_append] at hq
      subst hq
      have hx := HI1.out.inq x (by simp)
      have hxl : x < l.length := by rw [← HI1.out.len]; exact (List.getElem?_eq_some_iff.1 hx).1
      have hxn : x < n := by have := HN.out; omega
      have ho := HW1.out.own
      rw [List.length_append] at ho HW1 ⊢
      simp only [List.length_cons, List.length_nil, Nat.zero_add] at ho HW1 ⊢
      obtain ⟨gq, rfl, hgq, hqc⟩ := own_at ho (by simp)
      have hcx : wr.cell? ⟨gq, q'.length, none⟩ = some (.int .i64 (x : Int)) := hqc q'.length _ (by rw [List.map_append, List.getElem?_append_right (by simp)]; simp [natV])
      rw [List.length_append] at hmu
      simp only [List.length_cons, List.length_nil] at hmu
      generalize hm' : q'.length = m at *
      have hcap := own_cap ho
      clear hqc ho
      have hm256 : m + 1 ≤ 256 := by omega
      obtain ⟨sb, so, hA, hsb, c0, c1, c2, c3, c4⟩ := ins_cells (HL.out.kept HW1.out.kept) hxl
      subst hA
      have hW2 := HW1.out
      rw [← hm'] at hW2
      have HW2 := Lib.hid hW2.pop
      rw [hm'] at HW2
      have HM := Lib.hid hm'
      clear hW2 hm'
      have hgo := goesOn_calls l[x] x wr (by omega) (HI.out _ (List.getElem_mem _)).1 (right_small HRP.out (List.getElem?_eq_getElem hxl)).2
      have HD := Lib.hid (List.getElem?_eq_getElem hxl)
      unfold insV at hgo
      have HG := Lib.hid hgo
      clear hgo
      go_wp2_with fail
      refine HG.out.mono ?_
      rintro e w2 ⟨K2, Ab, rfl, hb⟩
      generalize hs : nexts l[x] x = s at *
      have HSS := Lib.hid hs
      have HW3 := Lib.hid (HW2.out.step K2)
      have HMid := Lib.hid (HI1.out.start s)
      have hmu0 := unmet_eq HW1.out.met
      have hsl : s.length ≤ 2 := by
        rw [← hs]
        unfold nexts
        repeat' split
        all_goals simp
      obtain ⟨b, hbb⟩ : ∃ b, (0 < s.length → Ab = some ⟨b, 0, none⟩ ∧ Blk w2 b 3 (s.map natV).toArray) ∧ b ≠ gm ∧ b ≠ gq := by
        rcases Nat.eq_zero_or_pos s.length with h | h
        · exact ⟨gm + gq + 1, fun h' => absurd h' (by omega), by omega, by omega⟩
        · obtain ⟨b, hA, hge, hB⟩ := hb h
          have hgmlt := HW1.out.met.lt
          exact ⟨b, fun _ => ⟨hA, hB⟩, by omega, by omega⟩
      obtain ⟨hbb, hbm, hbq⟩ := hbb
      have HBB := Lib.hid hbb
      clear hb hbb K2 hs
      have hms : q'.length = m := HM.out
      go_wp2_with fail
      go_loopw [4, 38] (fun v i wr' => ∃ (t : Nat) (M' : List Bool) (p : List Nat) (A' : Option Addr) (c' : Nat) (W : World), W = wr' ∧ t ≤ s.length ∧ i = .int .i64 t ∧ v = .slice A' p.length c' ∧ RMid l M' p x s t ∧ RW w W gm M' (.slice A' p.length c') p ∧ (0 < s.length → Blk W b 3 (s.map natV).toArray) ∧ (Value.slice A' p.length c').ownBlock ≠ some b ∧ M'.countP (fun b => !b) + p.length < M.countP (fun b => !b) + (m + 1)) (fun _ i _ => s.length - (intOf i).toNat)
      case atStart => exact ⟨0, M, q', some ⟨gq, 0, none⟩, cv, w2, rfl, Nat.zero_le _, rfl, by rw [HM.out], HMid.out, by rw [HM.out]; exact HW3.out, fun h => (HBB.out h).2, by simp [Value.ownBlock]; omega, by rw [HM.out]; omega⟩
      case round =>
        obtain ⟨t, M', p, A', c', W, rfl, ht, rfl, rfl, hRM, hRW, hBs, hob, hmu'⟩ := hrel
        by_cases hts : t < s.length
        · obtain ⟨hA, _⟩ := HBB.out (by omega)
          subst hA
          have hB := hBs (by omega)
          obtain ⟨y, hy⟩ : ∃ y, s[t]? = some y := ⟨s[t], List.getElem?_eq_getElem hts⟩
          have hcy : W.cell? ⟨b, t, none⟩ = some (.int .i64 (y : Int)) := by
            rw [hB.cell]
            simp [hy, natV]
          have hyl : y < l.length := nexts_lt HRP.out HD.out (by rw [HSS.out]; exact List.mem_of_getElem? hy)
          have hyn : y < n := by have := HN.out; omega
          have hyM : y < M'.length := by rw [hRM.len]; exact hyl
          have HRM := Lib.hid hRM
          have HRW := Lib.hid hRW
          have HY := Lib.hid hy
          have HBs := Lib.hid hBs
          have HOB := Lib.hid hob
          have hfy := hRW.met.frozen y
          have hcm : W.cell? ⟨gm, y, none⟩ = some (.bool M'[y]) := by
            rw [hRW.met.cell, boolsV_get, List.getElem?_eq_getElem hyM]
            rfl
          have HMY := Lib.hid (List.getElem?_eq_getElem hyM)
          clear hRM hRW hB hBs hy hob
          generalize M'[y] = my at *
          cases my
          · have HRS := Lib.hid (HRW.out.store y true)
            have HKB := Lib.hid (fun h => Blk.far (HBs.out h) (p := ⟨gm, y, none⟩) hbm (.bool true))
            have hcnt := count_add HMY.out
            go_wp2_with (at_builtin; go_loud (refine wpList_append_own_at _ rfl (.tmp 50) (.tmp 52) 44 rfl (gm + 1) 3 j0 _ 1 8 Tryd.underlying44 hj0 jz0 jz1 jz2 rfl (by decide) (.slice A' p.length c') p.length _ rfl (HRS.out.own.alloc _) ⟨W.heap.size, 0, none⟩ 1 1 [natV y] rfl rfl (news_at _ _ _ _ (by simp [World.setCell])) (fun u hu => by simp at hu; subst hu; rfl) (by unfold maxLen; omega) (by omega) (by have := HRS.out.met.lt; simp [World.setCell] at this ⊢; omega) ?_); intro v5 w5 hown5 hgrow5 _ hat5; obtain ⟨A5, q5, rfl⟩ := own_form hown5)
            have hWp := HRS.out.push hown5 hgrow5
            have HWP := Lib.hid hWp
            have hlen : (p ++ [y]).length = p.length + 1 := by simp
            have HHB := Lib.hid (fun h => ((HKB.out h).alloc _).grown hgrow5 (fun e => HOB.out e.symm))
            have HOB5 : Hid ((Value.slice A5 (p.length + 1) q5).ownBlock ≠ some b) := Lib.hid (by
              rcases hat5 with h | h
              · exact fun e => HOB.out (h.symm.trans e)
              · intro e
                rw [h] at e
                injection e with e
                have := (HBs.out (by omega)).lt
                simp [World.setCell] at e
                omega)
            clear hown5 hgrow5 hat5 hWp
            refine ⟨⟨t + 1, M'.set y true, p ++ [y], A5, q5, w5, rfl, hts, rfl, by rw [hlen], HRM.out.add HD.out HSS.out.symm HY.out hyl, HWP.out, HHB.out, by rw [hlen]; exact HOB5.out, by rw [hlen]; omega⟩, by simp [intOf]; omega⟩
          · go_wp2_with fail
            exact ⟨⟨t + 1, M', p, A', c', W, rfl, hts, rfl, rfl, HRM.out.skip HY.out HMY.out, HRW.out, HBs.out, HOB.out, hmu'⟩, by simp [intOf]; omega⟩
        · have hts' : t = s.length := by omega
          subst hts'
          go_wp2_with fail
          refine ⟨⟨M', p, _, rfl, hRM.finish HD.out HSS.out.symm, hRW, by omega⟩, ?_⟩
          rw [unmet_eq hRW.met]
          rw [hmu0]
          exact hmu'
end Go.Proofs.YtapmechbliofeaaDoor
