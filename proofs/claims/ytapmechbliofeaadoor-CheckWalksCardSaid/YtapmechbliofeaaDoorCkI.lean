/- Layer 5 (check): Longest. -/
import Derived.Test.YtapmechbliofeaaDoorCkH
import Derived.Lib.MinMax
namespace Go.Proofs.YtapmechbliofeaaDoor
open Go.RowKit

theorem metL_get {l : List InsD} (hr : rightB l = true) {k : Nat} (hk : k < l.length) : (metL l)[k]? = some (metB l k) := by
  unfold metL
  rw [if_pos hr, List.getElem?_map, List.getElem?_range hk]
  rfl
theorem metL_len {l : List InsD} (hr : rightB l = true) : (metL l).length = l.length := by
  unfold metL
  rw [if_pos hr]
  simp
theorem max_cast (a b : Nat) : max (a : Int) (b : Int) = ((max a b : Nat) : Int) := by omega

set_option maxRecDepth 100000 in
set_option maxHeartbeats 8000000 in
theorem longest_calls (w : World) (A : Option Addr) (n c : Nat) (l : List InsD) (hn : l.length = n) (hm : n ≤ maxLen) (hl : InsAt w A l) (hi : ∀ d ∈ l, 0 ≤ d.imm ∧ d.imm < 18446744073709551616) (T : Tabs w) :
    Calls Tryd.prog 17 #[.slice A n c] w (LongPost w l) := by
  have HR := Lib.hid (reach_calls w A n c l hn hm hl hi T)
  have HI := Lib.hid hi
  have HN := Lib.hid hn
  have HL := Lib.hid hl
  clear hi hn hl T
  cases hr : rightB l
  · have HRB := Lib.hid hr
    clear hr hm
    go_enter Tryd.func17, Tryd.ntmps17
    go_wp2_with fail
    refine HR.out.mono ?_
    rintro e w1 ⟨K1, ⟨h, _⟩ | ⟨_, rfl⟩⟩
    · rw [HRB.out] at h
      cases h
    · go_wp2_with fail
      go_ret2
      exact ⟨K1, 0, false, rfl, .inr ⟨fun h => (by have := h.1; rw [HRB.out] at this; cases this), rfl, rfl⟩, Nat.zero_le _⟩
  have HRB := Lib.hid hr
  have HRP := Lib.hid ((rightB_iff l).1 hr)
  have h0 : 0 < n := by rw [← HN.out]; exact HRP.out.pos
  have h256 : n ≤ 256 := by rw [← HN.out]; exact HRP.out.le
  clear hr hm
  obtain ⟨j0, hj0, jz0, jz1, jz2⟩ := info_parts' infoInt
  have hmk : ∀ W : World, (Instr.makeSlice 44 (.int .i64 (n : Int)) (.int .i64 (n : Int))).run Tryd.prog W = .ok (.slice (some ⟨W.heap.size, 0, none⟩) n n) (W.alloc (.cells (natsV (List.replicate n 0)) 3)) := fun W => by
    have h := run_make (P := Tryd.prog) W 44 3 j0 _ Tryd.underlying44 hj0 jz0 .i64 .i64 (n : Int) (n : Int) (by omega) (by omega) (by rw [jz2]; omega) (by omega)
    have e : (n : Int).toNat = n := by omega
    rw [e, jz1, nats_made] at h
    exact h
  go_enter Tryd.func17, Tryd.ntmps17
  go_wp2_with fail
  refine HR.out.mono ?_
  rintro e w1 ⟨K1, ⟨_, r, rfl, hr0, hrB⟩ | ⟨h, _⟩⟩
  case inr =>
    rw [HRB.out] at h
    cases h
  have hrl := hrB.lt
  have HK1 := Lib.hid K1
  rw [HN.out]
  have hn0 : ((n : Int) == 0) = false := by simp; omega
  have hstart : LW w (w1.alloc (.cells (natsV (List.replicate n 0)) 3)) w1.heap.size r (List.replicate n 0) (metL l) := ⟨Blk.new _ _ _, hrB.alloc _, K1.alloc _, K1.size⟩
  have HS := Lib.hid hstart
  have HF := Lib.hid (LIn.first HRP.out)
  rw [HN.out] at HF
  generalize hB : natsV (List.replicate n 0) = Bs at *
  clear hB hstart hrB K1
  go_wp2_with fail
  generalize w1.heap.size = ga at *
  go_loopw [5, 22] (fun mo i wr => ∃ (k most : Nat) (H : List Nat) (W : World), W = wr ∧ k ≤ n ∧ i = .int .i64 k ∧ mo = .int .i64 most ∧ LIn l k H most ∧ LW w W ga r H (metL l)) (fun _ i _ => n - (intOf i).toNat)
  case atStart => exact ⟨0, 0, _, _, rfl, Nat.zero_le _, rfl, rfl, HF.out, HS.out⟩
  case round =>
    obtain ⟨k, most, H, wr, rfl, hk, rfl, rfl, hI, hW⟩ := hrel
    have HI1 := Lib.hid hI
    have HW1 := Lib.hid hW
    clear hI hW
    by_cases hlt : k < n
    · have hlt' : k < l.length := by have := HN.out; omega
      obtain ⟨sb, so, hA, hsb, c0, c1, c2, c3, c4⟩ := ins_cells (HL.out.kept HW1.out.kept) hlt'
      subst hA
      have hD : l[k]? = some l[k] := List.getElem?_eq_getElem hlt'
      have HD := Lib.hid hD
      have HIM := Lib.hid (HI.out l[k] (List.getElem_mem _))
      generalize l[k] = d at *
      obtain ⟨op, a, b, c, imm⟩ := d
      simp only at *
      have hcr : wr.cell? ⟨r, k, none⟩ = some (.bool (metB l k)) := by
        rw [HW1.out.reach.cell, boolsV_get, metL_get HRB.out hlt']
        rfl
      have HMB := Lib.hid (metB_iff l k)
      have hrlt := HW1.out.reach.lt
      have hglt := HW1.out.ahead.lt
      clear hD
      cases hmb : metB l k
      · rw [hmb] at hcr
        have HMF : Hid (¬ Met l k) := Lib.hid (fun hm => by rw [HMB.out.2 hm] at hmb; cases hmb)
        clear hmb
        go_wp2_with fail
        exact ⟨⟨k + 1, most, H, _, rfl, hlt, rfl, rfl, HI1.out.skip HMF.out, HW1.out.step ((Kept.refl _ _).alloc _)⟩, by simp [intOf]; omega⟩
      · rw [hmb] at hcr
        have HMT := Lib.hid (HMB.out.1 hmb)
        clear hmb
        by_cases hop : op = 19
        · subst hop
          go_wp2_with fail
          go_ret2
          refine ⟨HW1.out.kept.alloc _, 0, false, rfl, .inr ⟨fun h => ?_, rfl, rfl⟩, Nat.zero_le _⟩
          exact h.2 k _ HMT.out HD.out rfl
        · have n19 : (op == 19) = false := by simpa using hop
          have HOP := Lib.hid hop
          have hkH : k < H.length := by rw [HI1.out.len]; exact hlt'
          have hh : H[k]? = some H[k] := List.getElem?_eq_getElem hkH
          have HH := Lib.hid hh
          have hsm := HI1.out.small k _ hh
          have hms := HI1.out.mostSmall
          generalize H[k] = h at *
          have hch : wr.cell? ⟨ga, k, none⟩ = some (.int .i64 (h : Int)) := by
            rw [HW1.out.ahead.cell, natsV_get, hh]
            rfl
          have hgo := goesOn_calls ⟨op, a, b, c, imm⟩ k (wr.alloc (.cells #[.int .i64 op, .int .i64 a, .int .i64 b, .int .i64 c, .int .u64 imm] 38)) (by omega) HIM.out.1 (right_small HRP.out HD.out).2
          have hsl : (nexts ⟨op, a, b, c, imm⟩ k).length ≤ 2 := by
            unfold nexts
            repeat' split
            all_goals simp
          unfold insV at hgo
          have HG := Lib.hid hgo
          clear hgo hop hh
          go_wp2_with fail
          refine HG.out.mono ?_
          rintro e w2 ⟨K2, Ab, rfl, hb⟩
          generalize hs : nexts ⟨op, a, b, c, imm⟩ k = s at *
          have HSS := Lib.hid hs
          have HW3 := Lib.hid ((HW1.out.step ((Kept.refl _ _).alloc _)).step K2)
          obtain ⟨bb, hbb⟩ : ∃ b, (0 < s.length → Ab = some ⟨b, 0, none⟩ ∧ Blk w2 b 3 (s.map natV).toArray) ∧ b ≠ ga := by
            rcases Nat.eq_zero_or_pos s.length with h | h
            · exact ⟨ga + 1, fun h' => absurd h' (by omega), by omega⟩
            · obtain ⟨b, hA, hge, hB⟩ := hb h
              have hgmlt := HW1.out.ahead.lt
              simp at hge
              exact ⟨b, fun _ => ⟨hA, hB⟩, by omega⟩
          obtain ⟨hbb, hbm⟩ := hbb
          have HBB := Lib.hid hbb
          clear hb hbb K2 hs
          go_wp2_with fail
          have hmc : max (most : Int) ((h : Int) + 1) = ((max most (h + 1) : Nat) : Int) := by omega
          rw [hmc]
          clear hmc
          go_loopw [47] (fun i wr' => ∃ (t : Nat) (H' : List Nat) (W : World), W = wr' ∧ t ≤ s.length ∧ i = .int .i64 t ∧ LMid l k H H' s t (h + 1) ∧ LW w W ga r H' (metL l) ∧ (0 < s.length → Blk W bb 3 (s.map natV).toArray)) (fun i _ => s.length - (intOf i).toNat)
          case atStart => exact ⟨0, H, w2, rfl, Nat.zero_le _, rfl, LMid.first HI1.out.len s k (h + 1), HW3.out, fun h => (HBB.out h).2⟩
          case round =>
            obtain ⟨t, H', W, rfl, ht, rfl, hLM, hLW, hBs⟩ := hrel
            by_cases hts : t < s.length
            · obtain ⟨hA, _⟩ := HBB.out (by omega)
              subst hA
              have hB := hBs (by omega)
              obtain ⟨y, hy⟩ : ∃ y, s[t]? = some y := ⟨s[t], List.getElem?_eq_getElem hts⟩
              have hcy : W.cell? ⟨bb, t, none⟩ = some (.int .i64 (y : Int)) := by
                rw [hB.cell]
                simp [hy, natV]
              have hyl : y < l.length := nexts_lt HRP.out HD.out (by rw [HSS.out]; exact List.mem_of_getElem? hy)
              have hyn : y < n := by have := HN.out; omega
              have hyH : y < H'.length := by rw [hLM.len]; exact hyl
              have hg : H'[y]? = some H'[y] := List.getElem?_eq_getElem hyH
              have hys := hLM.small HI1.out (by omega) hg
              generalize H'[y] = hv at *
              have hca : W.cell? ⟨ga, y, none⟩ = some (.int .i64 (hv : Int)) := by
                rw [hLW.ahead.cell, natsV_get, hg]
                rfl
              have hfy := hLW.ahead.frozen y
              have HST := hLW.store y (max hv (h + 1))
              have hmc : ((max hv (h + 1) : Nat) : Int) = max (hv : Int) ((h : Int) + 1) := by omega
              unfold natV at HST
              rw [hmc] at HST
              have HST := Lib.hid HST
              have HLM := Lib.hid (hLM.next hy hg)
              have HBs := Lib.hid (fun h' => Blk.far (hBs h') (p := ⟨ga, y, none⟩) hbm (.int .i64 (max (hv : Int) ((h : Int) + 1))))
              clear hLM hLW hB hBs hy hg hmc
              go_wp2_with fail
              exact ⟨⟨t + 1, _, _, rfl, hts, rfl, HLM.out, HST.out, HBs.out⟩, by simp [intOf]; omega⟩
            · have hts' : t = s.length := by omega
              subst hts'
              have HLM := Lib.hid (hLM.finish HRP.out HI1.out HMT.out HD.out HOP.out HSS.out.symm HH.out)
              have HLW := Lib.hid hLW
              clear hLM hLW hBs
              go_wp2_with fail
              exact ⟨⟨k + 1, max most (h + 1), H', W, rfl, hlt, rfl, rfl, HLM.out, HLW.out⟩, by simp [intOf]; omega⟩
    · have hkn : k = n := by omega
      subst hkn
      have HLN := HI1.out
      rw [← HN.out] at HLN
      have HLO := Lib.hid (LIn.long HRB.out HLN)
      have HMS := Lib.hid HI1.out.mostSmall
      clear HLN
      go_wp2_with fail
      go_ret2
      exact ⟨HW1.out.kept, most, true, rfl, HLO.out, by rw [HN.out]; exact HMS.out⟩
end Go.Proofs.YtapmechbliofeaaDoor
