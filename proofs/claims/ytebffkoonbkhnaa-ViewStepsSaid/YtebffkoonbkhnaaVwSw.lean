/- ViewSteps: the walk of the law. -/
import Derived.Test.YtebffkoonbkhnaaVwS
import Derived.Test.YtebffkoonbkhnaaVwY
namespace Go.Proofs.Ytebffkoonbkhnaa
open Go.RowKit
attribute [local go_sem ↓] loadMap_eq loadCfg_eq stMap_eq stRv_eq

theorem rAtA (c : CfgD) (h : c.Bd) (kind i k : Int) (w : World) : Calls Try.prog 22 #[.agg (cfgA c), .int .i64 kind, .int .i64 i, .int .i64 k] w fun e w' => e = .returned (.int .i64 (c.at_ kind i k)) ∧ Kept (fun _ => False) w w' := rAt_calls c h kind i k w
/-- The head of the loop over readings. -/
def SOut (c : CfgD) (n : Nat) (seq : Int) (w0 : World) (B : Nat) (L : List (Nat × TypeId × Array Value)) (hd i : Value) (wr : World) : Prop :=
  ∃ (W : World) (ii : Nat) (v : VwD), W = wr ∧ hd = .int .i64 v.held ∧ i = .int .i64 ii ∧ ii ≤ n ∧ v.seq = seq ∧ v.st ≠ 2 ∧ VX w0 W B c v L
/-- The head of the loop over steps. -/
def SIn (c : CfgD) (seq hd : Int) (want : Nat) (w0 : World) (B : Nat) (L : List (Nat × TypeId × Array Value)) (k p ok : Value) (wr : World) : Prop :=
  ∃ (W : World) (kk : Nat) (v : VwD) (g : Nat) (a0 a1 a2 a3 a4 a5 : Int), W = wr ∧ k = .int .i64 kk ∧ p = .pointer (some ⟨g, 0, none⟩) ∧ ok = .bool (decide (v.st = 0)) ∧
    SI c seq hd want v kk ∧ VX w0 W B c v ((g, 43, #[.int .i64 a0, .int .i64 a1, .int .u64 a2, .int .u64 a3, .int .u64 a4, .int .u64 a5]) :: L)

set_option maxRecDepth 100000 in
set_option maxHeartbeats 4000000 in
theorem steps_law (hal : ∀ w, Calls Try.prog 13 #[] w fun e w' => e = .returned (.bool true) ∧ Kept (fun _ => False) w w')
    (c : CfgD) (who seq : Int) (A : Option Addr) (n ca : Nat) (lq : List (Int × Int × Int)) (w : World)
    (hq : lq.length = n) (_hn : n ≤ maxLen) (hA : SlAt w A 3 (lq.map rqCells)) :
    Calls Try.prog 5 #[cfgV c, .int .i64 who, .int .u64 seq, .slice A n ca] w (Good w) := by
  have HO' := Lib.hid hal
  clear hal
  by_cases hok : c.Ok
  · by_cases h20 : 20 < n
    · have hor1 : decide ((20 : Int) < n) = true := decide_eq_true (by omega)
      have HD := Lib.hid (decide_eq_true hok)
      have HB0 : Hid (Blk (w.alloc (.cells (cfgA c) 24)) w.heap.size 24 (cfgA c)) := Lib.hid (Blk.new _ _ _)
      have HK0 : Hid (Kept (fun _ => False) w (w.alloc (.cells (cfgA c) 24))) := Lib.hid ((Kept.refl _ _).alloc _)
      clear hok hA hq h20
      unfold cfgV
      go_enter Try.func5, Try.ntmps5
      go_wp2_with (first
        | (go_at_call 13; ((refine (HO'.out _).mono ?_); rintro e w1 ⟨rfl, hk⟩; have HK1 := Lib.hid (HK0.out.trans hk); have HB1 := Lib.hid (hk.blk HB0.out (fun h => h)); have hl1 := loadCfg_blk HB1.out; clear hk))
        | (go_at_call 14; ((refine (right7 c _).mono ?_); rintro e w2 ⟨rfl, hk⟩; rw [HD.out]; have HK2 := Lib.hid (HK1.out.trans hk); clear hk hl1)))
      go_ret
      exact ⟨rfl, HK2.out⟩
    · have hn20 : decide ((20 : Int) < n) = false := decide_eq_false (by omega)
      have HD := Lib.hid (decide_eq_true hok)
      have HC := Lib.hid hok
      have HLQ := Lib.hid hq
      have HA := Lib.hid hA
      have HB0 : Hid (Blk (w.alloc (.cells (cfgA c) 24)) w.heap.size 24 (cfgA c)) := Lib.hid (Blk.new _ _ _)
      have HK0 : Hid (Kept (fun _ => False) w (w.alloc (.cells (cfgA c) 24))) := Lib.hid ((Kept.refl _ _).alloc _)
      clear hok hA hq
      unfold cfgV
      go_enter Try.func5, Try.ntmps5
      go_wp2_with (first
        | (go_at_call 13; ((refine (HO'.out _).mono ?_); rintro e w1 ⟨rfl, hk⟩; have HK1 := Lib.hid (HK0.out.trans hk); have HB1 := Lib.hid (hk.blk HB0.out (fun h => h)); have hl1 := loadCfg_blk HB1.out; clear hk))
        | (go_at_call 14; ((refine (right7 c _).mono ?_); rintro e w2 ⟨rfl, hk⟩; rw [HD.out]; have HK2 := Lib.hid (HK1.out.trans hk); have HB2 := Lib.hid (hk.blk HB1.out (fun h => h)); have hl2 := loadCfg_blk HB2.out; clear hk hl1))
        | (go_at_call 15; ((refine (right9 c HC.out _ _ HK2.out HB2.out).mono ?_); rintro e w3 ⟨B, u, hu0, hu1, rfl, h3⟩; obtain ⟨w4, hst4, w5, hst5, h5⟩ := h3.two u seq (-1) false; have H5 := Lib.hid (h5.sub (M := [(w.heap.size, 24, cfgA c)]) (by simp)); clear h3 h5 hl2)))
      go_loopw [12, 41] (fun hd i wr => SOut c n seq w B [(w.heap.size, 24, cfgA c)] hd i wr) (fun _ i _ => n - (intOf i).toNat)
      case atStart => exact ⟨_, 0, _, rfl, rfl, rfl, Nat.zero_le _, rfl, by simp, H5.out⟩
      case round =>
        obtain ⟨Wa, ii, v, rfl, rfl, rfl, hi, hsq, hst, hS⟩ := hrel
        by_cases hlt : ii < n
        · obtain ⟨⟨qk, qp, qb⟩, he⟩ : ∃ e, lq[ii]? = some e := ⟨_, List.getElem?_eq_getElem (by rw [HLQ.out]; exact hlt)⟩
          obtain ⟨gq, go, eA, hgb, hc⟩ := (HA.out.kept hS.kept) (by rw [List.length_map, HLQ.out]; omega)
          subst eA
          have hcell := hc ii (rqCells (qk, qp, qb)) (by rw [List.getElem?_map, he]; rfl)
          have c0 : Wa.cell? ⟨gq, go + ii * 3, none⟩ = some (.int .i64 qk) := hcell 0 _ rfl
          have c1 : Wa.cell? ⟨gq, go + ii * 3 + 1, none⟩ = some (.int .i64 qp) := hcell 1 _ rfl
          have c2 : Wa.cell? ⟨gq, go + ii * 3 + 2, none⟩ = some (.int .i64 qb) := hcell 2 _ rfl
          have t1 := HC.out.t1
          have t8 := HC.out.b64
          obtain ⟨t, ht, et⟩ := andB_bound qk 3 (by decide)
          obtain ⟨r, hr, er⟩ := andB_bound qb 255 (by decide)
          obtain ⟨s, hs, es⟩ := andB_bound qp 7 (by decide)
          have et' : bits BinOp.and IntKind.i64 qk 3 = (t : Int) := et
          have er' : bits BinOp.and IntKind.i64 qb 255 = (r : Int) := er
          have es' : bits BinOp.and IntKind.i64 qp 7 = (s : Int) := es
          have hb1 := HC.out.b1
          have hm : (r : Int).tmod c.b = r % c.b := Int.tmod_eq_emod_of_nonneg (by omega)
          have hne : ¬ c.b = 0 := by omega
          have q0 : 0 ≤ (r : Int) % c.b := Int.emod_nonneg _ (by omega)
          have q1 : (r : Int) % c.b < c.b := Int.emod_lt_of_pos _ (by omega)
          have HSV := Lib.hid hS
          have hcfg : ∀ cs, (Wa.alloc (.cells cs 38)).cell? ⟨w.heap.size, 1, none⟩ = some (.int .i64 c.b) := fun cs => ((hS.more 38 cs).blks (w.heap.size, 24, cfgA c) (by simp)).1.cell 1
          clear hS he hc hcell H5 et er es
          obtain ⟨b, hb⟩ : ∃ b, (r : Int) % c.b = b := ⟨_, rfl⟩
          rw [hb] at hm q0 q1
          have HSI := Lib.hid (And.intro hsq hst)
          have HBB : Hid (0 ≤ b ∧ b < c.b) := Lib.hid ⟨q0, q1⟩
          have HSS : Hid ((0 : Int) ≤ s ∧ (s : Int) ≤ 7) := Lib.hid ⟨by omega, by omega⟩
          clear hb hsq hst
          have hs0 : (0 : Int) ≤ s ∧ (s : Int) ≤ 7 := ⟨by omega, by omega⟩
          obtain ⟨tk, htk, ht0⟩ : ∃ k : Int, (t : Int) = k ∧ (k = 0 ∨ k = 1 ∨ k = 2 ∨ k = 3) := ⟨t, rfl, by omega⟩
          rw [htk] at et'
          clear htk ht
          rcases ht0 with rfl | rfl | rfl | rfl
          · have HS := Lib.hid (HSV.out.more 38 #[.int .i64 0, .int .i64 (s : Int), .int .i64 b])
            have hl3 := loadCfg_blk (HS.out.blks (w.heap.size, 24, cfgA c) (by simp)).1
            have hsi := req_SI0 HC.out.bd HSI.out.1 HSI.out.2 b HBB.out
            obtain ⟨want, hwant⟩ : ∃ k : Nat, 1 = k := ⟨_, rfl⟩
            rw [hwant] at hsi
            have hw3 : want ≤ 3 := by rw [← hwant]; first | (split <;> omega) | omega
            obtain ⟨v1, hv1⟩ : ∃ v1, VwD.req c v ⟨0, c.at_ 11 b 0, b⟩ = v1 := ⟨_, rfl⟩
            rw [hv1] at hsi
            obtain ⟨ak, ap, aov, aos, anv, ans, hask⟩ := VwD.ask_st c v1
            have HSJ := Lib.hid hsi
            have HAK := Lib.hid hask
            have HV1 := Lib.hid hv1
            have HW := Lib.hid hwant
            clear hsi hv1 hask hwant
            go_wp2_with (first
              | (go_at_call 22; ((refine (rAtA c HC.out.bd _ _ _ _).mono ?_); rintro e wq ⟨rfl, hk⟩; have HQ := Lib.hid ((HS.out.keep hk).setc (by have := HSV.out.kept.size; omega) (by have := HSV.out.lt; simpa using this) 1 (.int .i64 (c.at_ 11 b 0))); have d0 : wq.cell? ⟨Wa.heap.size, 0, none⟩ = some (.int .i64 0) := (HS.out.keep hk).at.cell 0; have d1 : wq.cell? ⟨Wa.heap.size, 1, none⟩ = some (.int .i64 (s : Int)) := (HS.out.keep hk).at.cell 1; have d2 : wq.cell? ⟨Wa.heap.size, 2, none⟩ = some (.int .i64 b) := (HS.out.keep hk).at.cell 2; have z1 := (HS.out.keep hk).at.frozen 1; have hl4 := loadCfg_blk (HQ.out.blks (w.heap.size, 24, cfgA c) (by simp)).1; clear hk hl3))
              | (go_at_call 16; ((refine (HQ.out.begin HC.out.bd ⟨0, c.at_ 11 b 0, b⟩ (by have := at_bd HC.out.bd 11 b 0; simp only; omega)).mono ?_); rw [HV1.out]; rintro e w6 ⟨rfl, h⟩; have H6 := Lib.hid h; clear h hl4 d0 d1 d2 z1))
              | (go_at_call 17; ((refine (VX.askTo H6.out HC.out.bd (HSJ.out.blk HC.out.bd) HAK.out).mono ?_); rintro e w7 ⟨rfl, h⟩; have H7 := Lib.hid h; clear h)))
            have H8 := Lib.hid (H7.out.more 43 #[.int .i64 ak, .int .i64 ap, .int .u64 aov, .int .u64 aos, .int .u64 anv, .int .u64 ans])
            clear c0 c1 c2 hcfg
            go_loopw [15, 16, 17] (fun k p ok wr => SIn c seq v.held want w B [(Wa.heap.size, 38, #[.int .i64 0, .int .i64 (c.at_ 11 b 0), .int .i64 b]), (w.heap.size, 24, cfgA c)] k p ok wr) (fun k _ _ _ => 9 - (intOf k).toNat)
            case atStart => exact ⟨_, 0, v1, _, _, _, _, _, _, _, rfl, rfl, rfl, rfl, HSJ.out, H8.out⟩
            case round =>
              obtain ⟨Wb, k2, v2, g, a0, a1, a2, a3, a4, a5, rfl, rfl, rfl, rfl, hsi2, hV⟩ := hrel
              have HV2 := Lib.hid hV
              by_cases hst : v2.st = 0
              · rw [decide_eq_true hst]
                have hk9 := hsi2.lt9 hw3
                have hT := hsi2.tell hst
                obtain ⟨v3, hv3⟩ : ∃ v3, v2.tell 1 seq = v3 := ⟨_, rfl⟩
                rw [hv3] at hT
                obtain ⟨bk, bp, bov, bos, bnv, bns, hask⟩ := VwD.ask_st c v3
                have HT := Lib.hid hT
                have HV3 := Lib.hid hv3
                have HAK2 := Lib.hid hask
                clear hV hsi2 hst hT hv3 hask
                go_wp2_with (first
                  | (go_at_call 20; ((refine (VX.tell HV2.out 1 seq true).mono ?_); rw [HV3.out]; rintro e w8 ⟨rfl, h⟩; have H9 := Lib.hid h; have b0 : _ = some (Value.int .i64 a0) := h.at.cell 0; have b1 : _ = some (Value.int .i64 a1) := h.at.cell 1; have b2 : _ = some (Value.int .u64 a2) := h.at.cell 2; have b3 : _ = some (Value.int .u64 a3) := h.at.cell 3; have b4 : _ = some (Value.int .u64 a4) := h.at.cell 4; have b5 : _ = some (Value.int .u64 a5) := h.at.cell 5; clear h))
                  | (go_at_call 17; ((refine (VX.askTo (H9.out.tail.more 43 #[.int .i64 a0, .int .i64 a1, .int .u64 a2, .int .u64 a3, .int .u64 a4, .int .u64 a5]) HC.out.bd (HT.out.blk HC.out.bd) HAK2.out).mono ?_); rintro e w9 ⟨rfl, h⟩; have H10 := Lib.hid h; clear h)))
                first | exact ⟨⟨_, k2 + 1, v3, _, a0, a1, a2, a3, a4, a5, rfl, by simp, rfl, rfl, HT.out, H10.out⟩, by simp [intOf]; omega⟩ | (go_roundw; (case rel => exact ⟨_, k2 + 1, v3, _, a0, a1, a2, a3, a4, a5, rfl, by simp, rfl, rfl, HT.out, H10.out⟩); (case measure => simp [intOf]; omega))
              · rw [decide_eq_false hst]
                obtain ⟨hs1, hkw, hhd⟩ := hsi2.rem0 hst
                have HSQ := Lib.hid hsi2.sq
                have HS1 := Lib.hid hs1
                have HHd := Lib.hid hhd
                have HSt : Hid (v2.st ≠ 2) := Lib.hid (by omega)
                have hq1 : ((k2 : Int) == 1) = true := by have := HW.out; simp; omega
                have hq2 : ((k2 : Int) != 1) = false := by have := HW.out; simp; omega
                have hq3 : (v.held == v.held) = true := by simp
                have b0 : Wb.cell? ⟨Wa.heap.size, 0, none⟩ = some (.int .i64 0) := (hV.blks (Wa.heap.size, 38, #[.int .i64 0, .int .i64 (c.at_ 11 b 0), .int .i64 b]) (by simp)).1.cell 0
                have b2 : Wb.cell? ⟨Wa.heap.size, 2, none⟩ = some (.int .i64 b) := (hV.blks (Wa.heap.size, 38, #[.int .i64 0, .int .i64 (c.at_ 11 b 0), .int .i64 b]) (by simp)).1.cell 2
                clear hV hsi2 hst hs1 hhd hkw
                go_wp2_with (first
                  | (go_at_call 19; ((refine (VX.fin HV2.out).mono ?_); rw [HS1.out]; rintro e w8 ⟨rfl, h⟩; have H9 := Lib.hid h; clear h))
                  | (go_at_call 21; ((refine (vwHeld_calls H9.out.vw).mono ?_); rw [HHd.out]; rintro e wh ⟨rfl, rfl⟩)))
                first | exact ⟨⟨_, ii + 1, v2, rfl, by rw [HHd.out], by simp, by omega, HSQ.out, HSt.out, H9.out.sub (by simp)⟩, by simp [intOf]; omega⟩ | (go_roundw; (case rel => exact ⟨_, ii + 1, v2, rfl, by rw [HHd.out], by simp, by omega, HSQ.out, HSt.out, H9.out.sub (by simp)⟩); (case measure => simp [intOf]; omega))
          · have HS := Lib.hid (HSV.out.more 38 #[.int .i64 1, .int .i64 (s : Int), .int .i64 b])
            have hl3 := loadCfg_blk (HS.out.blks (w.heap.size, 24, cfgA c) (by simp)).1
            have hsi := req_SI1 HC.out.bd HSI.out.1 HSI.out.2 b s HBB.out HSS.out
            obtain ⟨want, hwant⟩ : ∃ k : Nat, (if b = v.held then 1 else 3) = k := ⟨_, rfl⟩
            rw [hwant] at hsi
            have hw3 : want ≤ 3 := by rw [← hwant]; first | (split <;> omega) | omega
            obtain ⟨v1, hv1⟩ : ∃ v1, VwD.req c v ⟨1, s, b⟩ = v1 := ⟨_, rfl⟩
            rw [hv1] at hsi
            obtain ⟨ak, ap, aov, aos, anv, ans, hask⟩ := VwD.ask_st c v1
            have HSJ := Lib.hid hsi
            have HAK := Lib.hid hask
            have HV1 := Lib.hid hv1
            have HW := Lib.hid hwant
            clear hsi hv1 hask hwant
            go_wp2_with (first
              | (go_at_call 16; ((refine (HS.out.begin HC.out.bd ⟨1, s, b⟩ (by simp only; omega)).mono ?_); rw [HV1.out]; rintro e w6 ⟨rfl, h⟩; have H6 := Lib.hid h; clear h hl3))
              | (go_at_call 17; ((refine (VX.askTo H6.out HC.out.bd (HSJ.out.blk HC.out.bd) HAK.out).mono ?_); rintro e w7 ⟨rfl, h⟩; have H7 := Lib.hid h; clear h)))
            have H8 := Lib.hid (H7.out.more 43 #[.int .i64 ak, .int .i64 ap, .int .u64 aov, .int .u64 aos, .int .u64 anv, .int .u64 ans])
            clear c0 c1 c2 hcfg
            go_loopw [15, 16, 17] (fun k p ok wr => SIn c seq b want w B [(Wa.heap.size, 38, #[.int .i64 1, .int .i64 (s : Int), .int .i64 b]), (w.heap.size, 24, cfgA c)] k p ok wr) (fun k _ _ _ => 9 - (intOf k).toNat)
            case atStart => exact ⟨_, 0, v1, _, _, _, _, _, _, _, rfl, rfl, rfl, rfl, HSJ.out, H8.out⟩
            case round =>
              obtain ⟨Wb, k2, v2, g, a0, a1, a2, a3, a4, a5, rfl, rfl, rfl, rfl, hsi2, hV⟩ := hrel
              have HV2 := Lib.hid hV
              by_cases hst : v2.st = 0
              · rw [decide_eq_true hst]
                have hk9 := hsi2.lt9 hw3
                have hT := hsi2.tell hst
                obtain ⟨v3, hv3⟩ : ∃ v3, v2.tell 1 seq = v3 := ⟨_, rfl⟩
                rw [hv3] at hT
                obtain ⟨bk, bp, bov, bos, bnv, bns, hask⟩ := VwD.ask_st c v3
                have HT := Lib.hid hT
                have HV3 := Lib.hid hv3
                have HAK2 := Lib.hid hask
                clear hV hsi2 hst hT hv3 hask
                go_wp2_with (first
                  | (go_at_call 20; ((refine (VX.tell HV2.out 1 seq true).mono ?_); rw [HV3.out]; rintro e w8 ⟨rfl, h⟩; have H9 := Lib.hid h; have b0 : _ = some (Value.int .i64 a0) := h.at.cell 0; have b1 : _ = some (Value.int .i64 a1) := h.at.cell 1; have b2 : _ = some (Value.int .u64 a2) := h.at.cell 2; have b3 : _ = some (Value.int .u64 a3) := h.at.cell 3; have b4 : _ = some (Value.int .u64 a4) := h.at.cell 4; have b5 : _ = some (Value.int .u64 a5) := h.at.cell 5; clear h))
                  | (go_at_call 17; ((refine (VX.askTo (H9.out.tail.more 43 #[.int .i64 a0, .int .i64 a1, .int .u64 a2, .int .u64 a3, .int .u64 a4, .int .u64 a5]) HC.out.bd (HT.out.blk HC.out.bd) HAK2.out).mono ?_); rintro e w9 ⟨rfl, h⟩; have H10 := Lib.hid h; clear h)))
                first | exact ⟨⟨_, k2 + 1, v3, _, a0, a1, a2, a3, a4, a5, rfl, by simp, rfl, rfl, HT.out, H10.out⟩, by simp [intOf]; omega⟩ | (go_roundw; (case rel => exact ⟨_, k2 + 1, v3, _, a0, a1, a2, a3, a4, a5, rfl, by simp, rfl, rfl, HT.out, H10.out⟩); (case measure => simp [intOf]; omega))
              · rw [decide_eq_false hst]
                obtain ⟨hs1, hkw, hhd⟩ := hsi2.rem0 hst
                have HSQ := Lib.hid hsi2.sq
                have HS1 := Lib.hid hs1
                have HHd := Lib.hid hhd
                have HSt : Hid (v2.st ≠ 2) := Lib.hid (by omega)
                have hq3 : (b == b) = true := by simp
                have hand : bits BinOp.and IntKind.i64 1 1 = 1 := by decide +kernel
                by_cases hbh : b = v.held
                · have hq1 : ((k2 : Int) == 1) = true := by have := HW.out; rw [if_pos hbh] at this; simp; omega
                  have hq2 : ((k2 : Int) != 1) = false := by have := HW.out; rw [if_pos hbh] at this; simp; omega
                  have hq4 : (v.held != b) = false := by simp [hbh]
                  clear hbh
                  have b0 : Wb.cell? ⟨Wa.heap.size, 0, none⟩ = some (.int .i64 1) := (hV.blks (Wa.heap.size, 38, #[.int .i64 1, .int .i64 (s : Int), .int .i64 b]) (by simp)).1.cell 0
                  have b2 : Wb.cell? ⟨Wa.heap.size, 2, none⟩ = some (.int .i64 b) := (hV.blks (Wa.heap.size, 38, #[.int .i64 1, .int .i64 (s : Int), .int .i64 b]) (by simp)).1.cell 2
                  clear hV hsi2 hst hs1 hhd hkw
                  go_wp2_with (first
                    | (go_at_call 19; ((refine (VX.fin HV2.out).mono ?_); rw [HS1.out]; rintro e w8 ⟨rfl, h⟩; have H9 := Lib.hid h; clear h))
                    | (go_at_call 21; ((refine (vwHeld_calls H9.out.vw).mono ?_); rw [HHd.out]; rintro e wh ⟨rfl, rfl⟩)))
                  first | exact ⟨⟨_, ii + 1, v2, rfl, by rw [HHd.out], by simp, by omega, HSQ.out, HSt.out, H9.out.sub (by simp)⟩, by simp [intOf]; omega⟩ | (go_roundw; (case rel => exact ⟨_, ii + 1, v2, rfl, by rw [HHd.out], by simp, by omega, HSQ.out, HSt.out, H9.out.sub (by simp)⟩); (case measure => simp [intOf]; omega))
                · have hq1 : ((k2 : Int) == 3) = true := by have := HW.out; rw [if_neg hbh] at this; simp; omega
                  have hq2 : ((k2 : Int) != 3) = false := by have := HW.out; rw [if_neg hbh] at this; simp; omega
                  have hq4 : (v.held != b) = true := by simp; exact fun e => hbh e.symm
                  clear hbh
                  have b0 : Wb.cell? ⟨Wa.heap.size, 0, none⟩ = some (.int .i64 1) := (hV.blks (Wa.heap.size, 38, #[.int .i64 1, .int .i64 (s : Int), .int .i64 b]) (by simp)).1.cell 0
                  have b2 : Wb.cell? ⟨Wa.heap.size, 2, none⟩ = some (.int .i64 b) := (hV.blks (Wa.heap.size, 38, #[.int .i64 1, .int .i64 (s : Int), .int .i64 b]) (by simp)).1.cell 2
                  clear hV hsi2 hst hs1 hhd hkw
                  go_wp2_with (first
                    | (go_at_call 19; ((refine (VX.fin HV2.out).mono ?_); rw [HS1.out]; rintro e w8 ⟨rfl, h⟩; have H9 := Lib.hid h; clear h))
                    | (go_at_call 21; ((refine (vwHeld_calls H9.out.vw).mono ?_); rw [HHd.out]; rintro e wh ⟨rfl, rfl⟩)))
                  first | exact ⟨⟨_, ii + 1, v2, rfl, by rw [HHd.out], by simp, by omega, HSQ.out, HSt.out, H9.out.sub (by simp)⟩, by simp [intOf]; omega⟩ | (go_roundw; (case rel => exact ⟨_, ii + 1, v2, rfl, by rw [HHd.out], by simp, by omega, HSQ.out, HSt.out, H9.out.sub (by simp)⟩); (case measure => simp [intOf]; omega))
          · have HS := Lib.hid (HSV.out.more 38 #[.int .i64 2, .int .i64 (s : Int), .int .i64 b])
            have hl3 := loadCfg_blk (HS.out.blks (w.heap.size, 24, cfgA c) (by simp)).1
            have hsi := req_SI2 HC.out.bd HSI.out.1 HSI.out.2 b s HBB.out HSS.out
            obtain ⟨want, hwant⟩ : ∃ k : Nat, (if b = v.held then 0 else 2) = k := ⟨_, rfl⟩
            rw [hwant] at hsi
            have hw3 : want ≤ 3 := by rw [← hwant]; first | (split <;> omega) | omega
            obtain ⟨v1, hv1⟩ : ∃ v1, VwD.req c v ⟨2, s, b⟩ = v1 := ⟨_, rfl⟩
            rw [hv1] at hsi
            obtain ⟨ak, ap, aov, aos, anv, ans, hask⟩ := VwD.ask_st c v1
            have HSJ := Lib.hid hsi
            have HAK := Lib.hid hask
            have HV1 := Lib.hid hv1
            have HW := Lib.hid hwant
            clear hsi hv1 hask hwant
            go_wp2_with (first
              | (go_at_call 16; ((refine (HS.out.begin HC.out.bd ⟨2, s, b⟩ (by simp only; omega)).mono ?_); rw [HV1.out]; rintro e w6 ⟨rfl, h⟩; have H6 := Lib.hid h; clear h hl3))
              | (go_at_call 17; ((refine (VX.askTo H6.out HC.out.bd (HSJ.out.blk HC.out.bd) HAK.out).mono ?_); rintro e w7 ⟨rfl, h⟩; have H7 := Lib.hid h; clear h)))
            have H8 := Lib.hid (H7.out.more 43 #[.int .i64 ak, .int .i64 ap, .int .u64 aov, .int .u64 aos, .int .u64 anv, .int .u64 ans])
            clear c0 c1 c2 hcfg
            go_loopw [15, 16, 17] (fun k p ok wr => SIn c seq b want w B [(Wa.heap.size, 38, #[.int .i64 2, .int .i64 (s : Int), .int .i64 b]), (w.heap.size, 24, cfgA c)] k p ok wr) (fun k _ _ _ => 9 - (intOf k).toNat)
            case atStart => exact ⟨_, 0, v1, _, _, _, _, _, _, _, rfl, rfl, rfl, rfl, HSJ.out, H8.out⟩
            case round =>
              obtain ⟨Wb, k2, v2, g, a0, a1, a2, a3, a4, a5, rfl, rfl, rfl, rfl, hsi2, hV⟩ := hrel
              have HV2 := Lib.hid hV
              by_cases hst : v2.st = 0
              · rw [decide_eq_true hst]
                have hk9 := hsi2.lt9 hw3
                have hT := hsi2.tell hst
                obtain ⟨v3, hv3⟩ : ∃ v3, v2.tell 1 seq = v3 := ⟨_, rfl⟩
                rw [hv3] at hT
                obtain ⟨bk, bp, bov, bos, bnv, bns, hask⟩ := VwD.ask_st c v3
                have HT := Lib.hid hT
                have HV3 := Lib.hid hv3
                have HAK2 := Lib.hid hask
                clear hV hsi2 hst hT hv3 hask
                go_wp2_with (first
                  | (go_at_call 20; ((refine (VX.tell HV2.out 1 seq true).mono ?_); rw [HV3.out]; rintro e w8 ⟨rfl, h⟩; have H9 := Lib.hid h; have b0 : _ = some (Value.int .i64 a0) := h.at.cell 0; have b1 : _ = some (Value.int .i64 a1) := h.at.cell 1; have b2 : _ = some (Value.int .u64 a2) := h.at.cell 2; have b3 : _ = some (Value.int .u64 a3) := h.at.cell 3; have b4 : _ = some (Value.int .u64 a4) := h.at.cell 4; have b5 : _ = some (Value.int .u64 a5) := h.at.cell 5; clear h))
                  | (go_at_call 17; ((refine (VX.askTo (H9.out.tail.more 43 #[.int .i64 a0, .int .i64 a1, .int .u64 a2, .int .u64 a3, .int .u64 a4, .int .u64 a5]) HC.out.bd (HT.out.blk HC.out.bd) HAK2.out).mono ?_); rintro e w9 ⟨rfl, h⟩; have H10 := Lib.hid h; clear h)))
                first | exact ⟨⟨_, k2 + 1, v3, _, a0, a1, a2, a3, a4, a5, rfl, by simp, rfl, rfl, HT.out, H10.out⟩, by simp [intOf]; omega⟩ | (go_roundw; (case rel => exact ⟨_, k2 + 1, v3, _, a0, a1, a2, a3, a4, a5, rfl, by simp, rfl, rfl, HT.out, H10.out⟩); (case measure => simp [intOf]; omega))
              · rw [decide_eq_false hst]
                obtain ⟨hs1, hkw, hhd⟩ := hsi2.rem0 hst
                have HSQ := Lib.hid hsi2.sq
                have HS1 := Lib.hid hs1
                have HHd := Lib.hid hhd
                have HSt : Hid (v2.st ≠ 2) := Lib.hid (by omega)
                have hq3 : (b == b) = true := by simp
                have hand : bits BinOp.and IntKind.i64 2 1 = 0 := by decide +kernel
                by_cases hbh : b = v.held
                · have hq1 : ((k2 : Int) == 0) = true := by have := HW.out; rw [if_pos hbh] at this; simp; omega
                  have hq2 : ((k2 : Int) != 0) = false := by have := HW.out; rw [if_pos hbh] at this; simp; omega
                  have hq4 : (v.held != b) = false := by simp [hbh]
                  clear hbh
                  have b0 : Wb.cell? ⟨Wa.heap.size, 0, none⟩ = some (.int .i64 2) := (hV.blks (Wa.heap.size, 38, #[.int .i64 2, .int .i64 (s : Int), .int .i64 b]) (by simp)).1.cell 0
                  have b2 : Wb.cell? ⟨Wa.heap.size, 2, none⟩ = some (.int .i64 b) := (hV.blks (Wa.heap.size, 38, #[.int .i64 2, .int .i64 (s : Int), .int .i64 b]) (by simp)).1.cell 2
                  clear hV hsi2 hst hs1 hhd hkw
                  go_wp2_with (first
                    | (go_at_call 19; ((refine (VX.fin HV2.out).mono ?_); rw [HS1.out]; rintro e w8 ⟨rfl, h⟩; have H9 := Lib.hid h; clear h))
                    | (go_at_call 21; ((refine (vwHeld_calls H9.out.vw).mono ?_); rw [HHd.out]; rintro e wh ⟨rfl, rfl⟩)))
                  first | exact ⟨⟨_, ii + 1, v2, rfl, by rw [HHd.out], by simp, by omega, HSQ.out, HSt.out, H9.out.sub (by simp)⟩, by simp [intOf]; omega⟩ | (go_roundw; (case rel => exact ⟨_, ii + 1, v2, rfl, by rw [HHd.out], by simp, by omega, HSQ.out, HSt.out, H9.out.sub (by simp)⟩); (case measure => simp [intOf]; omega))
                · have hq1 : ((k2 : Int) == 2) = true := by have := HW.out; rw [if_neg hbh] at this; simp; omega
                  have hq2 : ((k2 : Int) != 2) = false := by have := HW.out; rw [if_neg hbh] at this; simp; omega
                  have hq4 : (v.held != b) = true := by simp; exact fun e => hbh e.symm
                  clear hbh
                  have b0 : Wb.cell? ⟨Wa.heap.size, 0, none⟩ = some (.int .i64 2) := (hV.blks (Wa.heap.size, 38, #[.int .i64 2, .int .i64 (s : Int), .int .i64 b]) (by simp)).1.cell 0
                  have b2 : Wb.cell? ⟨Wa.heap.size, 2, none⟩ = some (.int .i64 b) := (hV.blks (Wa.heap.size, 38, #[.int .i64 2, .int .i64 (s : Int), .int .i64 b]) (by simp)).1.cell 2
                  clear hV hsi2 hst hs1 hhd hkw
                  go_wp2_with (first
                    | (go_at_call 19; ((refine (VX.fin HV2.out).mono ?_); rw [HS1.out]; rintro e w8 ⟨rfl, h⟩; have H9 := Lib.hid h; clear h))
                    | (go_at_call 21; ((refine (vwHeld_calls H9.out.vw).mono ?_); rw [HHd.out]; rintro e wh ⟨rfl, rfl⟩)))
                  first | exact ⟨⟨_, ii + 1, v2, rfl, by rw [HHd.out], by simp, by omega, HSQ.out, HSt.out, H9.out.sub (by simp)⟩, by simp [intOf]; omega⟩ | (go_roundw; (case rel => exact ⟨_, ii + 1, v2, rfl, by rw [HHd.out], by simp, by omega, HSQ.out, HSt.out, H9.out.sub (by simp)⟩); (case measure => simp [intOf]; omega))
          · have HS := Lib.hid (HSV.out.more 38 #[.int .i64 3, .int .i64 (s : Int), .int .i64 b])
            have hl3 := loadCfg_blk (HS.out.blks (w.heap.size, 24, cfgA c) (by simp)).1
            have hsi := req_SI3 HC.out.bd HSI.out.1 HSI.out.2 b s HBB.out HSS.out
            obtain ⟨want, hwant⟩ : ∃ k : Nat, 1 = k := ⟨_, rfl⟩
            rw [hwant] at hsi
            have hw3 : want ≤ 3 := by rw [← hwant]; first | (split <;> omega) | omega
            obtain ⟨v1, hv1⟩ : ∃ v1, VwD.req c v ⟨3, s, b⟩ = v1 := ⟨_, rfl⟩
            rw [hv1] at hsi
            obtain ⟨ak, ap, aov, aos, anv, ans, hask⟩ := VwD.ask_st c v1
            have HSJ := Lib.hid hsi
            have HAK := Lib.hid hask
            have HV1 := Lib.hid hv1
            have HW := Lib.hid hwant
            clear hsi hv1 hask hwant
            go_wp2_with (first
              | (go_at_call 16; ((refine (HS.out.begin HC.out.bd ⟨3, s, b⟩ (by simp only; omega)).mono ?_); rw [HV1.out]; rintro e w6 ⟨rfl, h⟩; have H6 := Lib.hid h; clear h hl3))
              | (go_at_call 17; ((refine (VX.askTo H6.out HC.out.bd (HSJ.out.blk HC.out.bd) HAK.out).mono ?_); rintro e w7 ⟨rfl, h⟩; have H7 := Lib.hid h; clear h)))
            have H8 := Lib.hid (H7.out.more 43 #[.int .i64 ak, .int .i64 ap, .int .u64 aov, .int .u64 aos, .int .u64 anv, .int .u64 ans])
            clear c0 c1 c2 hcfg
            go_loopw [15, 16, 17] (fun k p ok wr => SIn c seq v.held want w B [(Wa.heap.size, 38, #[.int .i64 3, .int .i64 (s : Int), .int .i64 b]), (w.heap.size, 24, cfgA c)] k p ok wr) (fun k _ _ _ => 9 - (intOf k).toNat)
            case atStart => exact ⟨_, 0, v1, _, _, _, _, _, _, _, rfl, rfl, rfl, rfl, HSJ.out, H8.out⟩
            case round =>
              obtain ⟨Wb, k2, v2, g, a0, a1, a2, a3, a4, a5, rfl, rfl, rfl, rfl, hsi2, hV⟩ := hrel
              have HV2 := Lib.hid hV
              by_cases hst : v2.st = 0
              · rw [decide_eq_true hst]
                have hk9 := hsi2.lt9 hw3
                have hT := hsi2.tell hst
                obtain ⟨v3, hv3⟩ : ∃ v3, v2.tell 1 seq = v3 := ⟨_, rfl⟩
                rw [hv3] at hT
                obtain ⟨bk, bp, bov, bos, bnv, bns, hask⟩ := VwD.ask_st c v3
                have HT := Lib.hid hT
                have HV3 := Lib.hid hv3
                have HAK2 := Lib.hid hask
                clear hV hsi2 hst hT hv3 hask
                go_wp2_with (first
                  | (go_at_call 20; ((refine (VX.tell HV2.out 1 seq true).mono ?_); rw [HV3.out]; rintro e w8 ⟨rfl, h⟩; have H9 := Lib.hid h; have b0 : _ = some (Value.int .i64 a0) := h.at.cell 0; have b1 : _ = some (Value.int .i64 a1) := h.at.cell 1; have b2 : _ = some (Value.int .u64 a2) := h.at.cell 2; have b3 : _ = some (Value.int .u64 a3) := h.at.cell 3; have b4 : _ = some (Value.int .u64 a4) := h.at.cell 4; have b5 : _ = some (Value.int .u64 a5) := h.at.cell 5; clear h))
                  | (go_at_call 17; ((refine (VX.askTo (H9.out.tail.more 43 #[.int .i64 a0, .int .i64 a1, .int .u64 a2, .int .u64 a3, .int .u64 a4, .int .u64 a5]) HC.out.bd (HT.out.blk HC.out.bd) HAK2.out).mono ?_); rintro e w9 ⟨rfl, h⟩; have H10 := Lib.hid h; clear h)))
                first | exact ⟨⟨_, k2 + 1, v3, _, a0, a1, a2, a3, a4, a5, rfl, by simp, rfl, rfl, HT.out, H10.out⟩, by simp [intOf]; omega⟩ | (go_roundw; (case rel => exact ⟨_, k2 + 1, v3, _, a0, a1, a2, a3, a4, a5, rfl, by simp, rfl, rfl, HT.out, H10.out⟩); (case measure => simp [intOf]; omega))
              · rw [decide_eq_false hst]
                obtain ⟨hs1, hkw, hhd⟩ := hsi2.rem0 hst
                have HSQ := Lib.hid hsi2.sq
                have HS1 := Lib.hid hs1
                have HHd := Lib.hid hhd
                have HSt : Hid (v2.st ≠ 2) := Lib.hid (by omega)
                have hq1 : ((k2 : Int) == 1) = true := by have := HW.out; simp; omega
                have hq2 : ((k2 : Int) != 1) = false := by have := HW.out; simp; omega
                have hq3 : (v.held == v.held) = true := by simp
                have b0 : Wb.cell? ⟨Wa.heap.size, 0, none⟩ = some (.int .i64 3) := (hV.blks (Wa.heap.size, 38, #[.int .i64 3, .int .i64 (s : Int), .int .i64 b]) (by simp)).1.cell 0
                have b2 : Wb.cell? ⟨Wa.heap.size, 2, none⟩ = some (.int .i64 b) := (hV.blks (Wa.heap.size, 38, #[.int .i64 3, .int .i64 (s : Int), .int .i64 b]) (by simp)).1.cell 2
                clear hV hsi2 hst hs1 hhd hkw
                go_wp2_with (first
                  | (go_at_call 19; ((refine (VX.fin HV2.out).mono ?_); rw [HS1.out]; rintro e w8 ⟨rfl, h⟩; have H9 := Lib.hid h; clear h))
                  | (go_at_call 21; ((refine (vwHeld_calls H9.out.vw).mono ?_); rw [HHd.out]; rintro e wh ⟨rfl, rfl⟩)))
                first | exact ⟨⟨_, ii + 1, v2, rfl, by rw [HHd.out], by simp, by omega, HSQ.out, HSt.out, H9.out.sub (by simp)⟩, by simp [intOf]; omega⟩ | (go_roundw; (case rel => exact ⟨_, ii + 1, v2, rfl, by rw [HHd.out], by simp, by omega, HSQ.out, HSt.out, H9.out.sub (by simp)⟩); (case measure => simp [intOf]; omega))
        · obtain rfl : n = ii := by omega
          have HS := Lib.hid hS
          clear hS H5 hlt
          go_wp2_with fail
          go_ret
          exact ⟨rfl, HS.out.kept⟩
  · have HD := Lib.hid (decide_eq_false hok)
    have HB0 : Hid (Blk (w.alloc (.cells (cfgA c) 24)) w.heap.size 24 (cfgA c)) := Lib.hid (Blk.new _ _ _)
    have HK0 : Hid (Kept (fun _ => False) w (w.alloc (.cells (cfgA c) 24))) := Lib.hid ((Kept.refl _ _).alloc _)
    clear hok hA hq
    unfold cfgV
    go_enter Try.func5, Try.ntmps5
    go_wp2_with (first
      | (go_at_call 13; ((refine (HO'.out _).mono ?_); rintro e w1 ⟨rfl, hk⟩; have HK1 := Lib.hid (HK0.out.trans hk); have HB1 := Lib.hid (hk.blk HB0.out (fun h => h)); have hl1 := loadCfg_blk HB1.out; clear hk))
      | (go_at_call 14; ((refine (right7 c _).mono ?_); rintro e w2 ⟨rfl, hk⟩; rw [HD.out]; have HK2 := Lib.hid (HK1.out.trans hk); clear hk hl1)))
    go_ret
    exact ⟨rfl, HK2.out⟩
end Go.Proofs.Ytebffkoonbkhnaa
