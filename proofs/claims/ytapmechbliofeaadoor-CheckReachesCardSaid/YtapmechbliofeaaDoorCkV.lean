/- Layer 5 (check): the document's Longest. -/
import Derived.Test.YtapmechbliofeaaDoorCkS
import Derived.BigQuiet
namespace Go.Proofs.YtapmechbliofeaaDoor
open Go.RowKit

structure VW (w W : World) (g r : Nat) (H : List Nat) (M : List Bool) : Prop where
  most : Blk W g 3 (natsV H)
  reach : Blk W r 4 (boolsV M)
  kept : Kept (fun _ => False) w W
  new : w.heap.size ≤ g
theorem VW.store {w W : World} {g r : Nat} {H : List Nat} {M : List Bool} (h : VW w W g r H M) (j x : Nat) : VW w (W.setCell ⟨g, j, none⟩ (.int .i64 (x : Int))) g r (H.set j x) M := by
  refine ⟨?_, ?_, h.kept.setCell (.inr h.new) _, h.new⟩
  · rw [← natsV_set]
    exact h.most.set_ j _
  · exact h.reach.far (p := ⟨g, j, none⟩) (Blk.ne_ h.reach h.most (by decide)) _
theorem VW.drewN {w W : World} {g r : Nat} {H : List Nat} {M : List Bool} (h : VW w W g r H M) (n : Nat) : VW w (W.drewN n) g r H M := ⟨h.most, h.reach, h.kept.drewN n, h.new⟩

/-- While the next ones of k are gone through. -/
structure VMid (l : List InsD) (H H' : List Nat) (k j h : Nat) : Prop where
  len : H'.length = l.length
  here : H'[k]? = some h
  mid : TMid l k j h
  same : ∀ x, k < x → H'[x]? = H[x]?
  small : ∀ (x y : Nat), H'[x]? = some y → y ≤ l.length
theorem VMid.put {l : List InsD} {H H' : List Nat} {k j h h2 : Nat} (v : VMid l H H' k j h) (m : TMid l k (j + 1) h2) (hs : h2 ≤ l.length) : VMid l H (H'.set k h2) k (j + 1) h2 := by
  have hk := (List.getElem?_eq_some_iff.1 v.here).1
  refine ⟨by simp [v.len], List.getElem?_set_self hk, m, fun x hx => ?_, fun x y hy => ?_⟩
  · rw [List.getElem?_set_ne (by omega)]
    exact v.same x hx
  · by_cases e : k = x
    · subst e
      rw [List.getElem?_set_self hk] at hy
      injection hy with hy
      omega
    · rw [List.getElem?_set_ne e] at hy
      exact v.small x y hy
theorem VMid.skip {l : List InsD} {H H' : List Nat} {k j h : Nat} (v : VMid l H H' k j h) (m : TMid l k (j + 1) h) : VMid l H H' k (j + 1) h := ⟨v.len, v.here, m, v.same, v.small⟩
theorem VMid.first {l : List InsD} {H : List Nat} {k : Nat} (t : TAll l (k + 1) H) (hk : k < l.length) : VMid l H (H.set k 1) k (k + 1) 1 := by
  have hk' : k < H.length := by rw [t.len]; exact hk
  refine ⟨by simp [t.len], List.getElem?_set_self hk', TMid.first l k, fun x hx => List.getElem?_set_ne (by omega), fun x y hy => ?_⟩
  by_cases e : k = x
  · subst e
    rw [List.getElem?_set_self hk'] at hy
    injection hy with hy
    omega
  · rw [List.getElem?_set_ne e] at hy
    exact t.small x y hy
theorem VMid.finish {l : List InsD} {H H' : List Nat} {k h : Nat} (hr : RightP l) (t : TAll l (k + 1) H) (v : VMid l H H' k l.length h) (hn : Met l k → ∀ d, l[k]? = some d → d.op ≠ 19) : TAll l k H' := by
  refine ⟨v.len, v.small, fun j x hj hx => ?_, fun i d hi hm hd => ?_⟩
  · rcases Nat.lt_or_ge k j with h' | h'
    · rw [v.same j h'] at hx
      exact t.best j x (by omega) hx
    · obtain rfl : j = k := by omega
      rw [v.here] at hx
      injection hx with hx
      subst hx
      exact v.mid.finish hr
  · rcases Nat.lt_or_ge k i with h' | h'
    · exact t.noback i d (by omega) hm hd
    · obtain rfl : i = k := by omega
      exact hn hm d hd

set_option maxRecDepth 100000 in
set_option maxHeartbeats 8000000 in
theorem refLongest_calls (w : World) (A : Option Addr) (n c : Nat) (l : List InsD) (hn : l.length = n) (hl : InsAt w A l) (hi : ∀ d ∈ l, 0 ≤ d.imm ∧ d.imm < 18446744073709551616) (hr : rightB l = true) :
    Calls Tryd.prog 20 #[.slice A n c] w (LongPost w l) := by
  have HR := Lib.hid (refReach_calls w A n c l hn hl hi hr)
  have HI := Lib.hid hi
  have HN := Lib.hid hn
  have HL := Lib.hid hl
  have HRB := Lib.hid hr
  have HRP := Lib.hid ((rightB_iff l).1 hr)
  have h0 : 0 < n := by rw [← HN.out]; exact HRP.out.pos
  have h256 : n ≤ 256 := by rw [← HN.out]; exact HRP.out.le
  clear hi hn hl hr
  obtain ⟨j0, hj0, jz0, jz1, jz2⟩ := info_parts' infoInt
  have hmk : ∀ W : World, (Instr.makeSlice 44 (.int .i64 (n : Int)) (.int .i64 (n : Int))).run Tryd.prog W = .ok (.slice (some ⟨W.heap.size, 0, none⟩) n n) (W.alloc (.cells (natsV (List.replicate n 0)) 3)) := fun W => by
    have h := run_make (P := Tryd.prog) W 44 3 j0 _ Tryd.underlying44 hj0 jz0 .i64 .i64 (n : Int) (n : Int) (by omega) (by omega) (by rw [jz2]; omega) (by omega)
    have e : (n : Int).toNat = n := by omega
    rw [e, jz1, nats_made] at h
    exact h
  go_enter Tryd.func20, Tryd.ntmps20
  go_wp2_with fail
  refine HR.out.mono ?_
  intro e w1 hE
  obtain ⟨K1, ⟨_, r, rfl, _, hrB⟩ | ⟨h, _⟩⟩ := hE
  case inr =>
    rw [HRB.out] at h
    cases h
  rw [HN.out]
  have hstart : VW w (w1.alloc (.cells (natsV (List.replicate n 0)) 3)) w1.heap.size r (List.replicate n 0) (metL l) := ⟨Blk.new _ _ _, hrB.alloc _, K1.alloc _, K1.size⟩
  have HS := Lib.hid hstart
  have HT0 : Hid (TAll l n (List.replicate n 0)) := Lib.hid ⟨by simp [HN.out], fun j h hh => by
      rw [List.getElem?_replicate] at hh
      split at hh <;> simp at hh
      omega, fun j h hj hh => (by
      rw [List.getElem?_replicate, if_neg (by omega)] at hh
      cases hh), fun i d hi _ hd => (by
      have := (List.getElem?_eq_some_iff.1 hd).1
      have := HN.out
      omega)⟩
  generalize hB : natsV (List.replicate n 0) = Bs at *
  clear hB hstart hrB K1
  go_wp2_with fail
  clear hmk hj0 jz0 jz1 jz2
  generalize w1.heap.size = gm at *
  go_loopw [6] (fun kv wr => ∃ (k : Nat) (H : List Nat) (W : World), W = wr ∧ k ≤ n ∧ kv = .int .i64 ((k : Int) - 1) ∧ TAll l k H ∧ VW w W gm r H (metL l)) (fun kv _ => (intOf kv + 1).toNat)
  case atStart => exact ⟨n, _, _, rfl, Nat.le_refl _, rfl, HT0.out, HS.out⟩
  case round =>
    obtain ⟨k1, H, wr, rfl, hk1, rfl, hT, hW⟩ := hrel
    have HTA := Lib.hid hT
    have HW := Lib.hid hW
    clear hT hW
    rcases Nat.eq_zero_or_pos k1 with hz | hz
    · subst hz
      have hH0 : 0 < H.length := by rw [HTA.out.len, HN.out]; exact h0
      have hh : H[0]? = some H[0] := List.getElem?_eq_getElem hH0
      have HLo := Lib.hid (HTA.out.long HRB.out hh)
      have HSm := Lib.hid (HTA.out.small 0 _ hh)
      generalize H[0] = g at *
      have hc0 : wr.cell? ⟨gm, 0, none⟩ = some (.int .i64 (g : Int)) := by
        rw [HW.out.most.cell, natsV_get, hh]
        rfl
      clear hh
      have hz1 : ((0 : Nat) : Int) - 1 = -1 := by omega
      go_wp2_with fail
      go_ret2
      exact ⟨HW.out.kept, g, true, rfl, HLo.out, HSm.out⟩
    · obtain ⟨k, rfl⟩ : ∃ k, k1 = k + 1 := ⟨k1 - 1, by omega⟩
      have hke : ((k + 1 : Nat) : Int) - 1 = (k : Int) := by omega
      have hk : k < n := by omega
      have hkl : k < l.length := by have := HN.out; omega
      rw [hke]
      clear hke hz
      have hD : l[k]? = some l[k] := List.getElem?_eq_getElem hkl
      have HD := Lib.hid hD
      obtain ⟨sb, so, hA, hsb, c0, c1, c2, c3, c4⟩ := ins_cells (HL.out.kept HW.out.kept) hkl
      subst hA
      generalize l[k] = d at *
      have hcr : wr.cell? ⟨r, k, none⟩ = some (.bool (metB l k)) := by
        rw [HW.out.reach.cell, boolsV_get, metL_get HRB.out hkl]
        rfl
      have hfk := HW.out.most.frozen k
      have hkH : k < H.length := by rw [HTA.out.len]; exact hkl
      have hck : wr.cell? ⟨gm, k, none⟩ = some (.int .i64 (H[k] : Int)) := by
        rw [HW.out.most.cell, natsV_get, List.getElem?_eq_getElem hkH]
        rfl
      have HV0 := Lib.hid (VMid.first HTA.out hkl)
      have HVW := Lib.hid (HW.out.store k 1)
      clear hD c1 c2 c3 c4
      generalize H[k] = hold at *
      have hstop : (metB l k = true ∧ d.op = 19) ∨ (Met l k → ∀ d', l[k]? = some d' → d'.op ≠ 19) := by
        by_cases h19 : d.op = 19
        · cases hmb : metB l k
          · right
            intro hm
            rw [(metB_iff l k).2 hm] at hmb
            cases hmb
          · exact .inl ⟨rfl, h19⟩
        · right
          intro _ d' hd'
          rw [HD.out] at hd'
          injection hd' with hd'
          exact hd' ▸ h19
      rcases hstop with ⟨hmb, h19⟩ | hgo
      · have HM := Lib.hid ((metB_iff l k).1 hmb)
        rw [hmb] at hcr
        have H19 := Lib.hid h19
        rw [h19] at c0
        clear hmb h19
        go_wp2_with fail
        go_ret2
        refine ⟨HW.out.kept, 0, false, rfl, .inr ⟨fun h => ?_, rfl, rfl⟩, Nat.zero_le _⟩
        exact h.2 k _ HM.out HD.out H19.out
      · have HGO := Lib.hid hgo
        rcases (show metB l k = false ∨ (metB l k = true ∧ (d.op == 19) = false) by
          cases hmb : metB l k
          · exact .inl rfl
          · exact .inr ⟨rfl, beq_eq_false_iff_ne.2 (hgo ((metB_iff l k).1 hmb) d HD.out)⟩) with hmb | ⟨hmb, h19⟩
        all_goals
          rw [hmb] at hcr
          clear hmb hgo
          go_wp2_with fail
          go_loopw [7] (fun jv wr' => ∃ (j h : Nat) (H' : List Nat) (W : World), W = wr' ∧ k < j ∧ j ≤ n ∧ jv = .int .i64 j ∧ VMid l H H' k j h ∧ VW w W gm r H' (metL l)) (fun jv _ => n - (intOf jv).toNat)
          case' atStart => exact ⟨k + 1, 1, _, _, rfl, by omega, by omega, rfl, HV0.out, HVW.out⟩
        all_goals
          obtain ⟨j, h, H', W, rfl, hkj, hjn, rfl, hV, hX⟩ := hrel
          have HV := Lib.hid hV
          have HX := Lib.hid hX
          clear hV hX
          by_cases hj : j < n
          · have hjl : j < l.length := by have := HN.out; omega
            have hjH : j < H'.length := by rw [HV.out.len]; exact hjl
            have hg : H'[j]? = some H'[j] := List.getElem?_eq_getElem hjH
            have HG := Lib.hid hg
            have hgs := HV.out.small j _ hg
            have hhs := HV.out.small k _ HV.out.here
            rw [HN.out] at hgs hhs
            generalize H'[j] = g at *
            have hcj : W.cell? ⟨gm, j, none⟩ = some (.int .i64 (g : Int)) := by
              rw [HX.out.most.cell, natsV_get, hg]
              rfl
            have hch : W.cell? ⟨gm, k, none⟩ = some (.int .i64 (h : Int)) := by
              rw [HX.out.most.cell, natsV_get, HV.out.here]
              rfl
            have hfh := HX.out.most.frozen k
            have HLd : Hid (∀ q, Calls Tryd.prog 25 #[.slice (some ⟨sb, so, none⟩) n c, .int .i64 (k : Int), .int .i64 (j : Int)] (W.drewN q) fun e w' => e = .returned (.bool (leadsB d k j)) ∧ w' = W.drewN q) := Lib.hid (fun q => (refLeads_calls (W.drewN q) (some ⟨sb, so, none⟩) n c l k j d HD.out HN.out (HL.out.kept (HX.out.kept.drewN q)) (by omega) (by omega)).mono (fun e w' ⟨he, hw⟩ => ⟨he, hw.symm⟩))
            have HLi := Lib.hid (leadsB_iff (d := d) (k := k) (j := j) (HI.out d (List.mem_of_getElem? HD.out)).1)
            have HB : Hid (TBest l j g) := Lib.hid (HTA.out.best j g (by omega) (by rw [← HV.out.same j hkj]; exact hg))
            clear hg
            cases hlb : leadsB d k j
            · rw [hlb] at HLd HLi
              have HNL : Hid (¬ Leads l k j) := Lib.hid (fun hl => by
                obtain ⟨d', hd', hj'⟩ := hl
                rw [HD.out] at hd'
                injection hd' with hd'
                subst hd'
                have := HLi.out.2 hj'
                cases this)
              clear hlb
              go_wp2_with fail
              go_quiet (first | (go_at_call 25; refine Calls.quiet_of_same (HLd.out _)))
              go_wp2_with fail
              exact ⟨⟨j + 1, h, H', _, rfl, by omega, hj, rfl, HV.out.skip (HV.out.mid.same (.inl HNL.out)), HX.out.drewN _⟩, by simp [intOf]; omega⟩
            · rw [hlb] at HLd HLi
              have HYL : Hid (Leads l k j) := Lib.hid ⟨d, HD.out, HLi.out.1 rfl⟩
              clear hlb
              by_cases hgh : h < g + 1
              · have hd1 : decide ((h : Int) < (g : Int) + 1) = true := decide_eq_true (by omega)
                have HMM := Lib.hid (HV.out.mid.more hkj HYL.out HB.out hgh)
                have hsm := HMM.out.is.small HRP.out (by have := HN.out; omega)
                have HVP := Lib.hid (HV.out.put HMM.out (by omega))
                have HXP := Lib.hid (fun q => (HX.out.drewN q).store k (g + 1))
                go_wp2_with fail
                go_quiet (first | (go_at_call 25; refine Calls.quiet_of_same (HLd.out _)))
                go_wp2_with fail
                exact ⟨⟨j + 1, g + 1, _, _, rfl, by omega, hj, rfl, HVP.out, HXP.out _⟩, by simp [intOf]; omega⟩
              · have hd1 : decide ((h : Int) < (g : Int) + 1) = false := decide_eq_false (by omega)
                have HMM := Lib.hid (HV.out.mid.same (.inr (fun m ht => by have := HB.out.up m ht; omega)))
                go_wp2_with fail
                go_quiet (first | (go_at_call 25; refine Calls.quiet_of_same (HLd.out _)))
                go_wp2_with fail
                exact ⟨⟨j + 1, h, H', _, rfl, by omega, hj, rfl, HV.out.skip HMM.out, HX.out.drewN _⟩, by simp [intOf]; omega⟩
          · have hjn' : j = n := by omega
            subst hjn'
            have HTF := Lib.hid (VMid.finish HRP.out HTA.out (by rw [HN.out]; exact HV.out) HGO.out)
            go_wp2_with fail
            exact ⟨⟨k, H', W, rfl, by omega, rfl, HTF.out, HX.out⟩, by simp [intOf]⟩
end Go.Proofs.YtapmechbliofeaaDoor
