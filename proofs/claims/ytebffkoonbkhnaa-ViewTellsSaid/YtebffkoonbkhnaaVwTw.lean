/- ViewTells: the walk of the law. -/
import Derived.Test.YtebffkoonbkhnaaVwT
import Derived.Test.YtebffkoonbkhnaaVwY
namespace Go.Proofs.Ytebffkoonbkhnaa
open Go.RowKit
attribute [local go_sem ↓] loadMap_eq loadCfg_eq stMap_eq stRv_eq

/-- The head of the loop over readings. -/
def TOut (c : CfgD) (n m : Nat) (seq : Int) (w0 : World) (B : Nat) (L : List (Nat × TypeId × Array Value)) (k i : Value) (wr : World) : Prop :=
  ∃ (W : World) (kk ii : Nat) (v : VwD), W = wr ∧ k = .int .i64 kk ∧ i = .int .i64 ii ∧ ii ≤ n ∧ kk ≤ m ∧ v.seq = seq ∧ v.st ≠ 2 ∧ VX w0 W B c v L
/-- The head of the loop over steps. -/
def TIn (c : CfgD) (m : Nat) (qk seq : Int) (w0 : World) (B : Nat) (L : List (Nat × TypeId × Array Value)) (k la tl p ok : Value) (wr : World) : Prop :=
  ∃ (W : World) (kk : Nat) (v : VwD) (lst : Int) (td : Bool) (g : Nat) (a0 a1 a2 a3 a4 a5 : Int), W = wr ∧ k = .int .i64 kk ∧ la = .int .u64 lst ∧ tl = .bool td ∧ p = .pointer (some ⟨g, 0, none⟩) ∧ ok = .bool (decide (v.st = 0)) ∧ kk ≤ m ∧
    TI c qk seq v td lst ∧ VX w0 W B c v ((g, 43, #[.int .i64 a0, .int .i64 a1, .int .u64 a2, .int .u64 a3, .int .u64 a4, .int .u64 a5]) :: L)

set_option maxRecDepth 100000 in
set_option maxHeartbeats 4000000 in
theorem tells_law (hal : ∀ w, Calls Try.prog 13 #[] w fun e w' => e = .returned (.bool true) ∧ Kept (fun _ => False) w w')
    (c : CfgD) (who seq : Int) (A : Option Addr) (n ca : Nat) (lq : List (Int × Int × Int)) (D : Option Addr) (m cd : Nat) (lv : List Int) (w : World)
    (hq : lq.length = n) (_hn : n ≤ maxLen) (hA : SlAt w A 3 (lq.map rqCells)) (hwq : ∀ e ∈ lq, I64 e.1 ∧ I64 e.2.1 ∧ I64 e.2.2) (hv : lv.length = m) (_hm : m ≤ maxLen) (hD : SlAt w D 1 (lv.map fun x => [.int .u64 x])) :
    Calls Try.prog 4 #[cfgV c, .int .i64 who, .int .u64 seq, .slice A n ca, .slice D m cd] w (Good w) := by
  have HO' := Lib.hid hal
  clear hal
  by_cases hok : c.Ok
  · by_cases h20 : 20 < n ∨ 60 < m
    · obtain ⟨hor1, hor2⟩ | ⟨hor1, hor2⟩ : (decide ((20 : Int) < n) = true ∧ True) ∨ (decide ((20 : Int) < n) = false ∧ decide ((60 : Int) < m) = true) := by
        by_cases h : 20 < n
        · exact .inl ⟨decide_eq_true (by omega), trivial⟩
        · exact .inr ⟨decide_eq_false (by omega), decide_eq_true (by omega)⟩
      all_goals
        have HD := Lib.hid (decide_eq_true hok)
        have HB0 : Hid (Blk (w.alloc (.cells (cfgA c) 24)) w.heap.size 24 (cfgA c)) := Lib.hid (Blk.new _ _ _)
        have HK0 : Hid (Kept (fun _ => False) w (w.alloc (.cells (cfgA c) 24))) := Lib.hid ((Kept.refl _ _).alloc _)
        clear hok hA hD hwq hq hv h20
        unfold cfgV
        go_enter Try.func4, Try.ntmps4
        go_wp2_with (first
          | (go_at_call 13; ((refine (HO'.out _).mono ?_); rintro e w1 ⟨rfl, hk⟩; have HK1 := Lib.hid (HK0.out.trans hk); have HB1 := Lib.hid (hk.blk HB0.out (fun h => h)); have hl1 := loadCfg_blk HB1.out; clear hk))
          | (go_at_call 14; ((refine (right7 c _).mono ?_); rintro e w2 ⟨rfl, hk⟩; rw [HD.out]; have HK2 := Lib.hid (HK1.out.trans hk); clear hk hl1)))
        go_ret
        exact ⟨rfl, HK2.out⟩
    · have hn20 : decide ((20 : Int) < n) = false := decide_eq_false (by omega)
      have hm60 : decide ((60 : Int) < m) = false := decide_eq_false (by omega)
      have HD := Lib.hid (decide_eq_true hok)
      have HC := Lib.hid hok
      have HLQ := Lib.hid hq
      have HLV := Lib.hid hv
      have HA := Lib.hid hA
      have HDD := Lib.hid hD
      have HWQ := Lib.hid hwq
      have HB0 : Hid (Blk (w.alloc (.cells (cfgA c) 24)) w.heap.size 24 (cfgA c)) := Lib.hid (Blk.new _ _ _)
      have HK0 : Hid (Kept (fun _ => False) w (w.alloc (.cells (cfgA c) 24))) := Lib.hid ((Kept.refl _ _).alloc _)
      clear hok hA hD hwq hq hv
      unfold cfgV
      go_enter Try.func4, Try.ntmps4
      go_wp2_with (first
        | (go_at_call 13; ((refine (HO'.out _).mono ?_); rintro e w1 ⟨rfl, hk⟩; have HK1 := Lib.hid (HK0.out.trans hk); have HB1 := Lib.hid (hk.blk HB0.out (fun h => h)); have hl1 := loadCfg_blk HB1.out; clear hk))
        | (go_at_call 14; ((refine (right7 c _).mono ?_); rintro e w2 ⟨rfl, hk⟩; rw [HD.out]; have HK2 := Lib.hid (HK1.out.trans hk); have HB2 := Lib.hid (hk.blk HB1.out (fun h => h)); have hl2 := loadCfg_blk HB2.out; clear hk hl1))
        | (go_at_call 15; ((refine (right9 c HC.out _ _ HK2.out HB2.out).mono ?_); rintro e w3 ⟨B, u, hu0, hu1, rfl, h3⟩; obtain ⟨w4, hst4, w5, hst5, h5⟩ := h3.two u seq (-1) false; have H5 := Lib.hid (h5.sub (M := [(w.heap.size, 24, cfgA c)]) (by simp)); clear h3 h5 hl2)))
      go_loopw [14, 48] (fun k i wr => TOut c n m seq w B [(w.heap.size, 24, cfgA c)] k i wr) (fun _ i _ => n - (intOf i).toNat)
      case atStart => exact ⟨_, 0, 0, _, rfl, rfl, rfl, Nat.zero_le _, Nat.zero_le _, rfl, by simp, H5.out⟩
      case round =>
        obtain ⟨Wa, kk, ii, v, rfl, rfl, rfl, hi, hk, hsq, hst, hS⟩ := hrel
        by_cases hlt : ii < n
        · obtain ⟨⟨qk, qp, qb⟩, he⟩ : ∃ e, lq[ii]? = some e := ⟨_, List.getElem?_eq_getElem (by rw [HLQ.out]; exact hlt)⟩
          obtain ⟨gq, go, eA, hgb, hc⟩ := (HA.out.kept hS.kept) (by rw [List.length_map, HLQ.out]; omega)
          subst eA
          have hcell := hc ii (rqCells (qk, qp, qb)) (by rw [List.getElem?_map, he]; rfl)
          have c0 : Wa.cell? ⟨gq, go + ii * 3, none⟩ = some (.int .i64 qk) := hcell 0 _ rfl
          have c1 := hcell 1 _ rfl
          have c2 := hcell 2 _ rfl
          have HIW := Lib.hid (HWQ.out _ (List.mem_of_getElem? he))
          have HS := Lib.hid (hS.more 38 #[.int .i64 qk, .int .i64 qp, .int .i64 qb])
          have hti := req_TI HC.out.bd hsq hst ⟨qk, qp, qb⟩
          obtain ⟨v1, hv1⟩ : ∃ v1, VwD.req c v ⟨qk, qp, qb⟩ = v1 := ⟨_, rfl⟩
          rw [hv1] at hti
          obtain ⟨ak, ap, aov, aos, anv, ans, hask⟩ := hti.ask'
          have HTI := Lib.hid hti
          have HAK := Lib.hid hask
          have HV1 := Lib.hid hv1
          have hl3 := loadCfg_blk (HS.out.blks (w.heap.size, 24, cfgA c) (by simp)).1
          clear hS he hc hcell H5 hsq hst hti hask hv1
          go_wp2_with (first
            | (go_at_call 16; ((refine (HS.out.begin HC.out.bd ⟨qk, qp, qb⟩ HIW.out.2.1).mono ?_); rw [HV1.out]; rintro e w6 ⟨rfl, h⟩; have H6 := Lib.hid h; clear h hl3))
            | (go_at_call 17; ((refine (VX.askTo H6.out HC.out.bd (HTI.out.blk HC.out.bd) HAK.out).mono ?_); rintro e w7 ⟨rfl, h⟩; have H7 := Lib.hid h; clear h)))
          have H8 := Lib.hid (H7.out.more 43 #[.int .i64 ak, .int .i64 ap, .int .u64 aov, .int .u64 aos, .int .u64 anv, .int .u64 ans])
          clear c0 c1 c2
          go_loopw [14, 17, 18, 19, 20] (fun k la tl p ok wr => TIn c m qk seq w B [(Wa.heap.size, 38, #[.int .i64 qk, .int .i64 qp, .int .i64 qb]), (w.heap.size, 24, cfgA c)] k la tl p ok wr) (fun k _ _ _ _ _ => m - (intOf k).toNat)
          case atStart => exact ⟨_, kk, v1, 0, false, _, _, _, _, _, _, _, rfl, rfl, rfl, rfl, rfl, rfl, hk, HTI.out, H8.out⟩
          case round =>
            obtain ⟨Wb, k2, v2, lst, td, g, a0, a1, a2, a3, a4, a5, rfl, rfl, rfl, rfl, rfl, rfl, hk2, hti2, hV⟩ := hrel
            have HV2 := Lib.hid hV
            by_cases hst : v2.st = 0
            · rw [decide_eq_true hst]
              by_cases hkm : k2 = m
              · subst hkm
                clear hV hti2
                go_wp2_with fail
                go_ret
                exact ⟨rfl, HV2.out.kept⟩
              · have hkm' : ((k2 : Int) == m) = false := by simp; omega
                have hk3 : k2 < m := by omega
                obtain ⟨x, hx⟩ : ∃ x, lv[k2]? = some x := ⟨_, List.getElem?_eq_getElem (by rw [HLV.out]; exact hk3)⟩
                obtain ⟨gv, gp, eD, hgv, hc⟩ := (HDD.out.kept hV.kept) (by rw [List.length_map, HLV.out]; omega)
                subst eD
                have c0 : Wb.cell? ⟨gv, gp + k2 * 1, none⟩ = some (.int .u64 x) := hc k2 [.int .u64 x] (by rw [List.getElem?_map, hx]; rfl) 0 _ rfl
                rw [Nat.mul_one] at c0
                have hT := (hti2.tell hst x).1
                obtain ⟨v3, hv3⟩ : ∃ v3, v2.tell x seq = v3 := ⟨_, rfl⟩
                rw [hv3] at hT
                obtain ⟨bk, bp, bov, bos, bnv, bns, hask⟩ := hT.ask'
                have HT := Lib.hid hT
                have HV3 := Lib.hid hv3
                have HAK2 := Lib.hid hask
                clear hV hti2 hst hkm hx hc hT hv3 hask hk2
                go_wp2_with (first
                  | (go_at_call 20; ((refine (VX.tell HV2.out x seq true).mono ?_); rw [HV3.out]; rintro e w8 ⟨rfl, h⟩; have H9 := Lib.hid h; have b0 : _ = some (Value.int .i64 a0) := h.at.cell 0; have b1 : _ = some (Value.int .i64 a1) := h.at.cell 1; have b2 : _ = some (Value.int .u64 a2) := h.at.cell 2; have b3 : _ = some (Value.int .u64 a3) := h.at.cell 3; have b4 : _ = some (Value.int .u64 a4) := h.at.cell 4; have b5 : _ = some (Value.int .u64 a5) := h.at.cell 5; clear h c0))
                  | (go_at_call 17; ((refine (VX.askTo (H9.out.tail.more 43 #[.int .i64 a0, .int .i64 a1, .int .u64 a2, .int .u64 a3, .int .u64 a4, .int .u64 a5]) HC.out.bd (HT.out.blk HC.out.bd) HAK2.out).mono ?_); rintro e w9 ⟨rfl, h⟩; have H10 := Lib.hid h; clear h)))
                first | exact ⟨⟨_, k2 + 1, v3, x, true, _, a0, a1, a2, a3, a4, a5, rfl, by simp, rfl, rfl, rfl, rfl, hk3, HT.out, H10.out⟩, by simp [intOf]; omega⟩ | (go_roundw; (case rel => exact ⟨_, k2 + 1, v3, x, true, _, a0, a1, a2, a3, a4, a5, rfl, by simp, rfl, rfl, rfl, rfl, hk3, HT.out, H10.out⟩); (case measure => simp [intOf]; omega))
            · rw [decide_eq_false hst]
              have hsq2 := hti2.1
              have hf := hti2.fine hst
              have HSQ := Lib.hid hsq2
              by_cases hq2 : qk = 2
              · subst hq2
                have hor : (v2.st = 1) ∨ (v2.st = 3 ∧ v2.val = 0) := hf.elim (fun h => .inl h.1) (fun h => .inr h)
                clear hV hti2 hst hf hsq2
                rcases hor with hs | ⟨hs, hz⟩
                · have HS1 := Lib.hid hs
                  have HSt : Hid (v2.st ≠ 2) := Lib.hid (by omega)
                  clear hs
                  go_wp2_with (go_at_call 19; ((refine (VX.fin HV2.out).mono ?_); rw [HS1.out]; rintro e w8 ⟨rfl, h⟩; have H9 := Lib.hid h; have b0 : w8.cell? ⟨Wa.heap.size, 0, none⟩ = some (.int .i64 2) := (h.blks (Wa.heap.size, 38, #[.int .i64 2, .int .i64 qp, .int .i64 qb]) (by simp)).1.cell 0; clear h))
                  first | exact ⟨⟨_, k2, ii + 1, v2, rfl, rfl, by simp, by omega, hk2, HSQ.out, HSt.out, H9.out.sub (by simp)⟩, by simp [intOf]; omega⟩ | (go_roundw; (case rel => exact ⟨_, k2, ii + 1, v2, rfl, rfl, by simp, by omega, hk2, HSQ.out, HSt.out, H9.out.sub (by simp)⟩); (case measure => simp [intOf]; omega))
                · have HS1 := Lib.hid hs
                  have HZ := Lib.hid hz
                  have HSt : Hid (v2.st ≠ 2) := Lib.hid (by omega)
                  clear hs hz
                  go_wp2_with (go_at_call 19; ((refine (VX.fin HV2.out).mono ?_); rw [HS1.out, HZ.out]; rintro e w8 ⟨rfl, h⟩; have H9 := Lib.hid h; have b0 : w8.cell? ⟨Wa.heap.size, 0, none⟩ = some (.int .i64 2) := (h.blks (Wa.heap.size, 38, #[.int .i64 2, .int .i64 qp, .int .i64 qb]) (by simp)).1.cell 0; clear h))
                  first | exact ⟨⟨_, k2, ii + 1, v2, rfl, rfl, by simp, by omega, hk2, HSQ.out, HSt.out, H9.out.sub (by simp)⟩, by simp [intOf]; omega⟩ | (go_roundw; (case rel => exact ⟨_, k2, ii + 1, v2, rfl, rfl, by simp, by omega, hk2, HSQ.out, HSt.out, H9.out.sub (by simp)⟩); (case measure => simp [intOf]; omega))
              · have hq3 : (qk == 2) = false := by simpa using hq2
                have hor : (v2.st = 1 ∧ td = true ∧ v2.val = lst) ∨ (v2.st = 3 ∧ v2.val = 0) := by
                  rcases hf with ⟨a, b | b⟩ | h
                  · exact absurd b hq2
                  · exact .inl ⟨a, b⟩
                  · exact .inr h
                clear hV hti2 hst hf hsq2 hq2
                rcases hor with ⟨hs, rfl, hz⟩ | ⟨hs, hz⟩
                · have HS1 := Lib.hid hs
                  have HZ := Lib.hid hz
                  have HSt : Hid (v2.st ≠ 2) := Lib.hid (by omega)
                  have hll : (lst == lst) = true := by simp
                  clear hs hz
                  go_wp2_with (go_at_call 19; ((refine (VX.fin HV2.out).mono ?_); rw [HS1.out, HZ.out]; rintro e w8 ⟨rfl, h⟩; have H9 := Lib.hid h; have b0 : w8.cell? ⟨Wa.heap.size, 0, none⟩ = some (.int .i64 qk) := (h.blks (Wa.heap.size, 38, #[.int .i64 qk, .int .i64 qp, .int .i64 qb]) (by simp)).1.cell 0; clear h))
                  all_goals (first | exact ⟨⟨_, k2, ii + 1, v2, rfl, rfl, by simp, by omega, hk2, HSQ.out, HSt.out, H9.out.sub (by simp)⟩, by simp [intOf]; omega⟩ | (go_roundw; (case rel => exact ⟨_, k2, ii + 1, v2, rfl, rfl, by simp, by omega, hk2, HSQ.out, HSt.out, H9.out.sub (by simp)⟩); (case measure => simp [intOf]; omega)))
                · have HS1 := Lib.hid hs
                  have HZ := Lib.hid hz
                  have HSt : Hid (v2.st ≠ 2) := Lib.hid (by omega)
                  clear hs hz
                  go_wp2_with (go_at_call 19; ((refine (VX.fin HV2.out).mono ?_); rw [HS1.out, HZ.out]; rintro e w8 ⟨rfl, h⟩; have H9 := Lib.hid h; have b0 : w8.cell? ⟨Wa.heap.size, 0, none⟩ = some (.int .i64 qk) := (h.blks (Wa.heap.size, 38, #[.int .i64 qk, .int .i64 qp, .int .i64 qb]) (by simp)).1.cell 0; clear h))
                  first | exact ⟨⟨_, k2, ii + 1, v2, rfl, rfl, by simp, by omega, hk2, HSQ.out, HSt.out, H9.out.sub (by simp)⟩, by simp [intOf]; omega⟩ | (go_roundw; (case rel => exact ⟨_, k2, ii + 1, v2, rfl, rfl, by simp, by omega, hk2, HSQ.out, HSt.out, H9.out.sub (by simp)⟩); (case measure => simp [intOf]; omega))
        · obtain rfl : n = ii := by omega
          have HS := Lib.hid hS
          clear hS H5 hlt
          go_wp2_with fail
          go_ret
          exact ⟨rfl, HS.out.kept⟩
  · have HD := Lib.hid (decide_eq_false hok)
    have HB0 : Hid (Blk (w.alloc (.cells (cfgA c) 24)) w.heap.size 24 (cfgA c)) := Lib.hid (Blk.new _ _ _)
    have HK0 : Hid (Kept (fun _ => False) w (w.alloc (.cells (cfgA c) 24))) := Lib.hid ((Kept.refl _ _).alloc _)
    clear hok hA hD hwq hq hv
    unfold cfgV
    go_enter Try.func4, Try.ntmps4
    go_wp2_with (first
      | (go_at_call 13; ((refine (HO'.out _).mono ?_); rintro e w1 ⟨rfl, hk⟩; have HK1 := Lib.hid (HK0.out.trans hk); have HB1 := Lib.hid (hk.blk HB0.out (fun h => h)); have hl1 := loadCfg_blk HB1.out; clear hk))
      | (go_at_call 14; ((refine (right7 c _).mono ?_); rintro e w2 ⟨rfl, hk⟩; rw [HD.out]; have HK2 := Lib.hid (HK1.out.trans hk); clear hk hl1)))
    go_ret
    exact ⟨rfl, HK2.out⟩
end Go.Proofs.Ytebffkoonbkhnaa
