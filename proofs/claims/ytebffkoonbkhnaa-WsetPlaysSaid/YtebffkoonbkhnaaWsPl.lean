/- WsetPlays: the walk of the law. -/
import Derived.Test.YtebffkoonbkhnaaWsPx
import Derived.Test.YtebffkoonbkhnaaWsPo
namespace Go.Proofs.Ytebffkoonbkhnaa
open Go.RowKit Go.Maps

/-- The head of the loop over steps. -/
def PlRel (w0 : World) (b xb : Nat) (r : Int) (m : Nat) (i : Value) (wr : World) : Prop :=
  ∃ (W : World) (k n np : Nat) (ps : List (Int × Int)) (pv : Value), W = wr ∧ i = .int .i64 k ∧ k ≤ m ∧ n ≤ k ∧ np ≤ k ∧ Wf ps ∧ PX w0 W b r ps n pv np ps [(xb, 80, #[.int .i64 r, pv])]

/-- The head of a loop that turns nothing. -/
def KpRel (W0 : World) (m : Nat) (i : Value) (wr : World) : Prop := ∃ (W : World) (k : Nat), W = wr ∧ i = .int .i64 k ∧ k ≤ m ∧ Kept (fun _ => False) W0 W
set_option maxRecDepth 100000 in
set_option maxHeartbeats 8000000 in
theorem plays_law (room : Int) (A : Option Addr) (m c : Nat) (l : List OpB) (ask most : Int) (w : World) (_h0 : Int64 room) (hl : l.length = m) (_hm : m ≤ maxLen) (hA : SlAt w A 4 (l.map opbL)) (hw : ∀ e ∈ l, I64 e.mark ∧ I64 e.pos ∧ 0 ≤ e.val ∧ e.val ≤ 18446744073709551615) (hask : Int64 ask) (_hmost : Int64 most) :
    Calls Try.prog 11 #[.int .i64 room, .slice A m c, .int .i64 ask, .int .i64 most] w fun e w' => e = .returned (.bool true) ∧ Kept (fun _ => False) w w' := by
  by_cases h40 : 40 < m
  · have hor1 : decide ((40 : Int) < m) = true := decide_eq_true (by omega)
    clear hA hw hl h40
    go_enter Try.func11, Try.ntmps11
    go_wp2_with (go_at_call 58; (with_reducible refine (alive8_calls _).mono ?_); rintro e w1 ⟨rfl, hk1⟩; have HK1 := Lib.hid hk1; clear hk1)
    go_ret
    exact ⟨rfl, HK1.out⟩
  have hd1 : decide ((40 : Int) < m) = false := decide_eq_false (by omega)
  have hm40 : m ≤ 40 := by omega
  have HL := Lib.hid hl
  have HA := Lib.hid hA
  have HW := Lib.hid hw
  have HAsk := Lib.hid hask
  clear hA hw hl h40 hask
  obtain ⟨t7, ht7, et7⟩ := andB_bound most 7 (by decide)
  have et' : bits BinOp.and IntKind.i64 most 7 = (t7 : Int) := et7
  clear et7
  obtain ⟨r, hr⟩ : ∃ r, roomOf room = r := ⟨_, rfl⟩
  have HRO := Lib.hid hr
  clear hr
  go_enter Try.func11, Try.ntmps11
  go_wp2_with (first
    | (go_at_call 58; (with_reducible refine (alive8_calls _).mono ?_); rintro e w1 ⟨rfl, hk1⟩; have HK1 := Lib.hid hk1; clear hk1)
    | (go_at_call 31; (refine (SG.new (w0 := w) HK1.out _).mono ?_); rintro e w2 ⟨b, rfl, h2⟩; rw [HRO.out] at h2; have H2 := Lib.hid (SX.of h2); clear h2)
    | (go_at_call 32; (refine (rNew8_calls _ _).mono ?_); rw [HRO.out]; rintro e w3 ⟨rfl, hk⟩; have H3 := Lib.hid (H2.out.keep hk); clear hk))
  have hx0 := PX.made H3.out #[.int .i64 r, .slice none 0 0] 80
  have hxb : w.heap.size ≤ w3.heap.size := H3.out.kept.size
  generalize w3.heap.size = xb at *
  have HX0 := Lib.hid hx0
  clear hx0
  go_loopw [35] (fun i wr => PlRel w b xb r m i wr) (fun i _ => m - (intOf i).toNat)
  case atStart => exact ⟨_, 0, 0, 0, [], _, rfl, rfl, Nat.zero_le _, Nat.le_refl _, Nat.le_refl _, (fun _ h => by simp at h), HX0.out⟩
  case round =>
    obtain ⟨W, k, n, np, ps, pv, rfl, rfl, hk, hn, hnp, hwf, hX⟩ := hrel
    by_cases hlt : k < m
    · obtain ⟨⟨bk, om, oa, ov⟩, he⟩ : ∃ e, l[k]? = some e := ⟨_, List.getElem?_eq_getElem (by rw [HL.out]; exact hlt)⟩
      obtain ⟨gq, go, eA, hgb, hc⟩ := (HA.out.kept hX.kept) (by rw [List.length_map, HL.out]; omega)
      subst eA
      have hcell := hc k (opbL ⟨bk, om, oa, ov⟩) (by rw [List.getElem?_map, he]; rfl)
      have c0 : W.cell? ⟨gq, go + k * 4, none⟩ = some (.bool bk) := hcell 0 _ rfl
      have c1 : W.cell? ⟨gq, go + k * 4 + 1, none⟩ = some (.int .i64 om) := hcell 1 _ rfl
      have c2 : W.cell? ⟨gq, go + k * 4 + 2, none⟩ = some (.int .i64 oa) := hcell 2 _ rfl
      have c3 : W.cell? ⟨gq, go + k * 4 + 3, none⟩ = some (.int .u64 ov) := hcell 3 _ rfl
      have HOw := Lib.hid (HW.out _ (List.mem_of_getElem? he))
      obtain ⟨PA, PC, rfl⟩ := own_form hX.rowP.2
      have HPN : Hid (ps.length = np) := Lib.hid hX.rowP.1
      have HX := Lib.hid (hX.more 118 #[.bool bk, .int .i64 om, .int .i64 oa, .int .u64 ov])
      have HWf := Lib.hid hwf
      have d0 : (W.alloc (.cells #[.bool bk, .int .i64 om, .int .i64 oa, .int .u64 ov] 118)).cell? ⟨xb, 0, none⟩ = some (.int .i64 r) := (HX.out.blk (x := (xb, 80, #[.int .i64 r, .slice PA np PC])) (by simp)).cell 0
      have d1 : (W.alloc (.cells #[.bool bk, .int .i64 om, .int .i64 oa, .int .u64 ov] 118)).cell? ⟨xb, 1, none⟩ = some (.slice PA np PC) := (HX.out.blk (x := (xb, 80, #[.int .i64 r, .slice PA np PC])) (by simp)).cell 1
      have hWs : w.heap.size ≤ W.heap.size := hX.kept.size
      have hne : xb ≠ W.heap.size := by have := (hX.blk (x := (xb, 80, #[.int .i64 r, .slice PA np PC])) (by simp)).lt; omega
      clear hX he hc hcell HX0 hwf
      go_upto_if 40 with fail
      generalize hob : W.heap.size = ob at *
      have o0 : (W.alloc (.cells #[.bool bk, .int .i64 om, .int .i64 oa, .int .u64 ov] 118)).cell? ⟨ob, 0, none⟩ = some (.bool bk) := (HX.out.blk (x := (ob, 118, #[.bool bk, .int .i64 om, .int .i64 oa, .int .u64 ov])) (by simp)).cell 0
      have o1 : (W.alloc (.cells #[.bool bk, .int .i64 om, .int .i64 oa, .int .u64 ov] 118)).cell? ⟨ob, 1, none⟩ = some (.int .i64 om) := (HX.out.blk (x := (ob, 118, #[.bool bk, .int .i64 om, .int .i64 oa, .int .u64 ov])) (by simp)).cell 1
      have o2 : (W.alloc (.cells #[.bool bk, .int .i64 om, .int .i64 oa, .int .u64 ov] 118)).cell? ⟨ob, 2, none⟩ = some (.int .i64 oa) := (HX.out.blk (x := (ob, 118, #[.bool bk, .int .i64 om, .int .i64 oa, .int .u64 ov])) (by simp)).cell 2
      have o3 : (W.alloc (.cells #[.bool bk, .int .i64 om, .int .i64 oa, .int .u64 ov] 118)).cell? ⟨ob, 3, none⟩ = some (.int .u64 ov) := (HX.out.blk (x := (ob, 118, #[.bool bk, .int .i64 om, .int .i64 oa, .int .u64 ov])) (by simp)).cell 3
      go_cut [] (fun wx => ∃ (ps' : List (Int × Int)) (n' np' : Nat) (pv' : Value), Wf ps' ∧ n' ≤ k + 1 ∧ np' ≤ k + 1 ∧ PX w wx b r ps' n' pv' np' ps' [(xb, 80, #[.int .i64 r, pv']), (ob, 118, #[.bool bk, .int .i64 om, .int .i64 oa, .int .u64 ov])])
      case first =>
        cases bk with
        | true =>
          obtain ⟨ps1, hps1⟩ : ∃ ps1, (if 0 ≤ om ∧ om ≤ ps.length then ps.take om.toNat else ps) = ps1 := ⟨_, rfl⟩
          obtain ⟨nq, hnq⟩ : ∃ nq, (if 0 ≤ om ∧ om ≤ ps.length then om.toNat else np) = nq := ⟨_, rfl⟩
          obtain ⟨dd, hdd⟩ : ∃ dd, decide (0 ≤ om ∧ om ≤ (ps.length : Int)) = dd := ⟨_, rfl⟩
          have hwf1 : Wf ps1 := by rw [← hps1]; split
                                   · exact HWf.out.take _
                                   · exact HWf.out
          have hnq1 : nq ≤ k + 1 := by rw [← hnq]; have := HPN.out; split <;> omega
          have HPS1 := Lib.hid hps1
          have HNQ := Lib.hid hnq
          have HDD := Lib.hid hdd
          have HWf1 := Lib.hid hwf1
          have hd2 : (dd != dd) = false := by simp
          clear hps1 hnq hdd hwf1
          go_wp2_with (first
            | (go_at_call 43; (refine (rBack_calls HX.out.rowP (by omega) r om).mono ?_); rw [HPS1.out, HNQ.out, HDD.out]; rintro e w4 ⟨pv1, rfl, hr, hkk, hown⟩; obtain ⟨QA, QC, rfl⟩ := own_form hr.2; have H4 := Lib.hid (HX.out.row hkk hr (fun z e => .inl (by rw [← hown]; exact e))); have HY := Lib.hid (PX.sub (H4.out.more 80 #[.int .i64 r, .slice QA nq QC]) (M := [(xb, 80, #[.int .i64 r, .slice PA np PC]), (ob, 118, #[.bool true, .int .i64 om, .int .i64 oa, .int .u64 ov])]) (by simp)); have x0 : (w4.alloc (.cells #[.int .i64 r, .slice QA nq QC] 80)).cell? ⟨xb, 0, none⟩ = some (.int .i64 r) := (HY.out.blk (x := (xb, 80, #[.int .i64 r, .slice PA np PC])) (by simp)).cell 0; have x1 : (w4.alloc (.cells #[.int .i64 r, .slice QA nq QC] 80)).cell? ⟨xb, 1, none⟩ = some (.slice PA np PC) := (HY.out.blk (x := (xb, 80, #[.int .i64 r, .slice PA np PC])) (by simp)).cell 1; have y0 := (HY.out.blk (x := (xb, 80, #[.int .i64 r, .slice PA np PC])) (by simp)).frozen 0; have y1 := (HY.out.blk (x := (xb, 80, #[.int .i64 r, .slice PA np PC])) (by simp)).frozen 1; have HV := Lib.hid (PX.two HY.out hxb (by decide) (by simp; exact hne.symm) (.int .i64 r) (.slice QA nq QC)); have e1 : (((w4.alloc (.cells #[.int .i64 r, .slice QA nq QC] 80)).setCell ⟨xb, 0, none⟩ (.int .i64 r)).setCell ⟨xb, 1, none⟩ (.slice QA nq QC)).cell? ⟨ob, 1, none⟩ = some (.int .i64 om) := (HV.out.blk (x := (ob, 118, #[.bool true, .int .i64 om, .int .i64 oa, .int .u64 ov])) (by simp)).cell 1;  clear hr hkk hown)
            | (go_at_call 42; (refine (PX.back HV.out HWf.out (by have := HPN.out; omega) om).mono ?_); rw [HPS1.out, HDD.out]; rintro e w6 ⟨rfl, h6⟩; have H6 := Lib.hid h6; clear h6))
          go_meet
          exact ⟨ps1, n, nq, .slice QA nq QC, HWf1.out, by omega, hnq1, H6.out⟩
        | false =>
          obtain ⟨pe, hpe⟩ : ∃ pe, putErr r ps oa = pe := ⟨_, rfl⟩
          have hpb : 0 ≤ pe ∧ pe ≤ 6 := by rw [← hpe]; unfold putErr; split <;> omega
          have hpl := putS_len r ps (oa, ov)
          have HPE := Lib.hid hpe
          have HPL := Lib.hid hpl
          have HWf1 := Lib.hid (Wf.putS (room := r) HWf.out (p := (oa, ov)) HOw.out.2.1)
          have hd2 : (pe != pe) = false := by simp
          clear hpe hpl
          go_wp2_with (first
            | (go_at_call 59; (refine (rPut_calls HX.out.rowP (by omega) r oa ov).mono ?_); rintro e w4 ⟨pv1, nq, he4, hr, hkk, hown⟩; rw [HPE.out] at he4; subst he4; obtain ⟨QA, QC, rfl⟩ := own_form hr.2; have HNQ : Hid ((putS r ps (oa, ov)).length = nq) := Lib.hid hr.1; have H4 := Lib.hid (HX.out.row hkk hr hown); have HY := Lib.hid (PX.sub (H4.out.more 80 #[.int .i64 r, .slice QA nq QC]) (M := [(xb, 80, #[.int .i64 r, .slice PA np PC]), (ob, 118, #[.bool false, .int .i64 om, .int .i64 oa, .int .u64 ov])]) (by simp)); have x0 : (w4.alloc (.cells #[.int .i64 r, .slice QA nq QC] 80)).cell? ⟨xb, 0, none⟩ = some (.int .i64 r) := (HY.out.blk (x := (xb, 80, #[.int .i64 r, .slice PA np PC])) (by simp)).cell 0; have x1 : (w4.alloc (.cells #[.int .i64 r, .slice QA nq QC] 80)).cell? ⟨xb, 1, none⟩ = some (.slice PA np PC) := (HY.out.blk (x := (xb, 80, #[.int .i64 r, .slice PA np PC])) (by simp)).cell 1; have y0 := (HY.out.blk (x := (xb, 80, #[.int .i64 r, .slice PA np PC])) (by simp)).frozen 0; have y1 := (HY.out.blk (x := (xb, 80, #[.int .i64 r, .slice PA np PC])) (by simp)).frozen 1; have HV := Lib.hid (PX.two HY.out hxb (by decide) (by simp; exact hne.symm) (.int .i64 r) (.slice QA nq QC)); have e2 : (((w4.alloc (.cells #[.int .i64 r, .slice QA nq QC] 80)).setCell ⟨xb, 0, none⟩ (.int .i64 r)).setCell ⟨xb, 1, none⟩ (.slice QA nq QC)).cell? ⟨ob, 2, none⟩ = some (.int .i64 oa) := (HV.out.blk (x := (ob, 118, #[.bool false, .int .i64 om, .int .i64 oa, .int .u64 ov])) (by simp)).cell 2; have e3 : (((w4.alloc (.cells #[.int .i64 r, .slice QA nq QC] 80)).setCell ⟨xb, 0, none⟩ (.int .i64 r)).setCell ⟨xb, 1, none⟩ (.slice QA nq QC)).cell? ⟨ob, 3, none⟩ = some (.int .u64 ov) := (HV.out.blk (x := (ob, 118, #[.bool false, .int .i64 om, .int .i64 oa, .int .u64 ov])) (by simp)).cell 3;  clear hr hkk hown)
            | (go_at_call 60; (refine (PX.put HV.out oa ov HOw.out.2.1 (by have := HPN.out; omega) (by omega)).mono ?_); rw [HPE.out]; rintro e w6 ⟨rfl, h6⟩; have H6 := Lib.hid h6; clear h6))
          go_meet
          exact ⟨putS r ps (oa, ov), n + 1, nq, .slice QA nq QC, HWf1.out, by omega, by have := HNQ.out; have := HPL.out; have := HPN.out; omega, H6.out⟩
      case rest =>
        obtain ⟨qs, n', nq, pv', hwf', hn', hnq', hY⟩ := hcut
        obtain ⟨QA, QC, rfl⟩ := own_form hY.rowP.2
        have HQN : Hid (qs.length = nq) := Lib.hid hY.rowP.1
        have HY := Lib.hid hY
        have HWf' := Lib.hid hwf'
        clear hY hwf' d0 d1 o0 o1 o2 o3 HX HWf hnp hn HPN c0 c1 c2 c3
        have d0 : wc.cell? ⟨xb, 0, none⟩ = some (.int .i64 r) := (HY.out.blk (x := (xb, 80, #[.int .i64 r, .slice QA nq QC])) (by simp)).cell 0
        have d1 : wc.cell? ⟨xb, 1, none⟩ = some (.slice QA nq QC) := (HY.out.blk (x := (xb, 80, #[.int .i64 r, .slice QA nq QC])) (by simp)).cell 1
        have hel := ents_len qs
        obtain ⟨q, hq⟩ : ∃ q, (ents qs).length = q := ⟨_, rfl⟩
        rw [hq] at hel
        have hq40 : q ≤ 41 := by have := HQN.out; omega
        have HQ := Lib.hid hq
        have HT : Hid ((ents qs).take (100 : Int).toNat = ents qs) := Lib.hid (List.take_of_length_le (by show _ ≤ 100; omega))
        have HT7 : Hid (((ents qs).take (t7 : Int).toNat).length = min t7 q) := Lib.hid (by rw [List.length_take, Int.toNat_natCast, hq])
        have HLenQ : Hid (qs.length ≤ 60000) := Lib.hid (by have := HQN.out; omega)
        have HEL : Hid ((ents qs).length ≤ 60000) := Lib.hid (by omega)
        clear hq hel
        go_wp2_with (go_at_call 48; (refine (rAll_calls HY.out.rowP (by omega) r).mono ?_); rintro e w5 ⟨va, rfl, ho, _, hkk⟩; obtain ⟨VA, VC, rfl⟩ := own_form ho; rw [HQ.out] at ho ⊢; have HO5 := Lib.hid ho; have H5 := Lib.hid (HY.out.keep hkk); clear ho hkk)
        clear d0 d1
        have H5d := Lib.hid (H5.out.keep (Kept.refl _ _).drew)
        have HI5 := Lib.hid (SX.set H5d.out)
        have HO5d : Hid (w5.drew.ownsRow 0 129 2 (.slice VA q VC) (ents qs).length (entL (ents qs))) := Lib.hid (by rw [HQ.out]; exact (Kept.refl (fun _ => False) w5).drew.own HO5.out (fun _ _ h => h))
        have S5 : Hid (w5.drew.cell? ⟨xb, 0, none⟩ = some (.int .i64 r) ∧ w5.drew.cell? ⟨xb, 1, none⟩ = some (.slice QA nq QC)) := Lib.hid ⟨(H5d.out.blk (x := (xb, 80, #[.int .i64 r, .slice QA nq QC])) (by simp)).cell 0, (H5d.out.blk (x := (xb, 80, #[.int .i64 r, .slice QA nq QC])) (by simp)).cell 1⟩
        have hq1 : ((nq : Int) != nq) = false := by simp
        have hq2 : ((q : Int) != q) = false := by simp
        have hq3 : (r != r) = false := by simp
        have hmn : (((min t7 q : Nat) : Int) != min (t7 : Int) (q : Int)) = false := by simp; omega
        go_region_held3 (fun W' => W'.cell? ⟨xb, 0, none⟩ = some (.int .i64 r) ∧ W'.cell? ⟨xb, 1, none⟩ = some (.slice QA nq QC))
          (with_reducible (first | exact S8.out | exact S7.out | exact S6.out | exact S5.out))
          ((first
            | (go_at_call 62; ((with_reducible refine (lawAll HI7.out HLenQ.out (t7 : Int) (by omega)).mono ?_); rintro e w8 ⟨v8, rfl, ho8, _, hkk⟩; obtain ⟨EA, EC, rfl⟩ := own_form ho8; rw [HT7.out] at ho8 ⊢; have H8 := Lib.hid (H7.out.keep hkk); have S8 : Hid (w8.cell? ⟨xb, 0, none⟩ = some (.int .i64 r) ∧ w8.cell? ⟨xb, 1, none⟩ = some (.slice QA nq QC)) := Lib.hid ⟨(H8.out.blk (x := (xb, 80, #[.int .i64 r, .slice QA nq QC])) (by simp)).cell 0, (H8.out.blk (x := (xb, 80, #[.int .i64 r, .slice QA nq QC])) (by simp)).cell 1⟩; clear hkk ho8))
            | (go_at_call 46; ((with_reducible refine (same_calls (l := ents qs) HO6.out HO56.out HEL.out).mono ?_); rintro e w7 ⟨rfl, hkk⟩; have H7 := Lib.hid (H6.out.keep hkk); have HI7 := Lib.hid (SX.set H7.out); have S7 : Hid (w7.cell? ⟨xb, 0, none⟩ = some (.int .i64 r) ∧ w7.cell? ⟨xb, 1, none⟩ = some (.slice QA nq QC)) := Lib.hid ⟨(H7.out.blk (x := (xb, 80, #[.int .i64 r, .slice QA nq QC])) (by simp)).cell 0, (H7.out.blk (x := (xb, 80, #[.int .i64 r, .slice QA nq QC])) (by simp)).cell 1⟩; clear hkk))
            | (go_at_call 62; ((with_reducible refine (lawAll HI5.out HLenQ.out 100 (by omega)).mono ?_); rw [HT.out]; rintro e w6 ⟨v6, rfl, ho6, _, hkk⟩; have HO6 := Lib.hid ho6; have HO56 := Lib.hid (hkk.own HO5d.out (fun _ _ h => h)); have H6 := Lib.hid (H5d.out.keep hkk); have S6 : Hid (w6.cell? ⟨xb, 0, none⟩ = some (.int .i64 r) ∧ w6.cell? ⟨xb, 1, none⟩ = some (.slice QA nq QC)) := Lib.hid ⟨(H6.out.blk (x := (xb, 80, #[.int .i64 r, .slice QA nq QC])) (by simp)).cell 0, (H6.out.blk (x := (xb, 80, #[.int .i64 r, .slice QA nq QC])) (by simp)).cell 1⟩; clear hkk ho6))
            | (go_at_call 61; ((with_reducible refine (room_calls HI5.out).mono ?_); rintro e wz ⟨rfl, rfl⟩))
            | (go_at_call 56; ((with_reducible refine (len_calls HI5.out).mono ?_); rw [HQ.out]; rintro e wz ⟨rfl, rfl⟩))
            | (go_at_call 36; ((with_reducible refine (mark_calls HI5.out).mono ?_); rw [HQN.out]; rintro e wz ⟨rfl, rfl⟩))))
        all_goals
          have o2' : w8.cell? ⟨ob, 2, none⟩ = some (.int .i64 oa) := (H8.out.blk (x := (ob, 118, #[.bool bk, .int .i64 om, .int .i64 oa, .int .u64 ov])) (by simp)).cell 2
          clear S5 S6 S7 S8 HO6 HO56 HO5d HO5 H6 H7 HI7 HI5 H5d H5 hq1 hq2 hq3 hmn
          go_wp2_with fail
          have HA9 := Lib.hid (H8.out.more 3 #[.int .i64 oa, .int .i64 ask])
          have HB9 := Lib.hid (Blk.new w8 3 #[.int .i64 oa, .int .i64 ask])
          clear o2' H8
          go_loopw [120] (fun i wr => KpRel (w8.alloc (.cells #[.int .i64 oa, .int .i64 ask] 3)) 2 i wr) (fun i _ => 2 - (intOf i).toNat)
          case atStart => exact ⟨_, 0, rfl, rfl, by omega, Kept.refl _ _⟩
          case round =>
            obtain ⟨V, j, rfl, rfl, hj, hK⟩ := hrel
            by_cases hj2 : j < 2
            · obtain ⟨aa, haa, hia⟩ : ∃ aa, V.cell? ⟨w8.heap.size, j, none⟩ = some (.int .i64 aa) ∧ I64 aa := by
                have hb := hK.blk HB9.out (fun h => h)
                rcases (show j = 0 ∨ j = 1 by omega) with rfl | rfl
                · exact ⟨oa, hb.cell 0, HOw.out.2.1⟩
                · exact ⟨ask, hb.cell 1, HAsk.out⟩
              obtain ⟨gv, gb, hg⟩ : ∃ gv gb, getV qs aa = .tuple #[.int .u64 gv, .bool gb] := ⟨_, _, rfl⟩
              have HV9 := Lib.hid (HA9.out.keep hK)
              have HI9 := Lib.hid (SX.set HV9.out)
              have HGV := Lib.hid hg
              have HIA := Lib.hid hia
              have HK := Lib.hid hK
              have x0 : V.cell? ⟨xb, 0, none⟩ = some (.int .i64 r) := (HV9.out.blk (x := (xb, 80, #[.int .i64 r, .slice QA nq QC])) (by simp)).cell 0
              have x1 : V.cell? ⟨xb, 1, none⟩ = some (.slice QA nq QC) := (HV9.out.blk (x := (xb, 80, #[.int .i64 r, .slice QA nq QC])) (by simp)).cell 1
              have hgv : (gv != gv) = false := by simp
              have hgb : (gb != gb) = false := by simp
              clear hg hia hK
              go_wp2_with (first
                | (go_at_call 53; (refine (get_calls HI9.out aa HIA.out).mono ?_); rw [HGV.out]; rintro e w9 ⟨rfl, rfl⟩)
                | (go_at_call 63; (refine (rGet_calls HV9.out.rowP (by omega) r aa).mono ?_); rw [HGV.out]; rintro e w10 ⟨rfl, hkk⟩; have HK10 := Lib.hid (HK.out.trans hkk); clear hkk))
              first | exact ⟨⟨_, j + 1, rfl, by simp, by omega, HK10.out⟩, by simp [intOf]; omega⟩ | (go_roundw; (case rel => exact ⟨_, j + 1, rfl, by simp, by omega, HK10.out⟩); (case measure => simp [intOf]; omega))
            · obtain rfl : j = 2 := by omega
              clear hj2
              go_wp2_with fail
              first | exact ⟨⟨_, k + 1, n', nq, qs, .slice QA nq QC, rfl, by simp, by omega, hn', hnq', HWf'.out, (HA9.out.keep hK).sub (by simp)⟩, by simp [intOf]; omega⟩ | (go_roundw; (case rel => exact ⟨_, k + 1, n', nq, qs, .slice QA nq QC, rfl, by simp, by omega, hn', hnq', HWf'.out, (HA9.out.keep hK).sub (by simp)⟩); (case measure => simp [intOf]; omega))
    · obtain rfl : m = k := by omega
      have HXe := Lib.hid hX.kept
      clear hX HX0 hlt hwf
      go_wp2_with fail
      go_ret
      exact ⟨rfl, HXe.out⟩
end Go.Proofs.Ytebffkoonbkhnaa
