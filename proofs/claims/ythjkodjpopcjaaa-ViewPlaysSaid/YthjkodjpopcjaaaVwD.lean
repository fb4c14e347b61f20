/- Law 09's does. -/
import Derived.Test.YthjkodjpopcjaaaVwU
namespace Go.Proofs.Ythjkodjpopcjaaa
open Go.RowKit

def doesR (c : CfgD) (L : List OutD) (who seq : Int) (x : XvD) (t : TpD) (qk qa qb : Int) : RdR :=
  if qk = 0 then cellR c L seq x t qa else if qk = 1 then wordR c L who seq x t qb qa
  else if qk = 2 then ((liveR c L who seq x t qb).1, (liveR c L who seq x t qb).2.1, 0, (liveR c L who seq x t qb).2.2)
  else cellR c L seq x t (c.at_ 10 (bits BinOp.and IntKind.i64 qa 15) 0)
theorem rCellA {w : World} {A : Option Addr} {m cp : Nat} {L : List OutD} (hL : L.length = m) (hm : m ≤ maxLen) (hs : SlAt w A 3 (L.map OutD.cells)) (c : CfgD) (hb : c.Bd) (who seq : Int) (x : XvD) (t : TpD) (p : Int) :
    Calls Try.prog 60 #[.agg (rvA c who seq x.held x.stale), .agg (tpA (.slice A m cp) t), .int .i64 p] w fun e w' => e = .returned (.tuple #[.agg (rvA c who seq (cellR c L seq x t p).1.held (cellR c L seq x t p).1.stale), .agg (tpA (.slice A m cp) (cellR c L seq x t p).2.1), .int .u64 (cellR c L seq x t p).2.2.1, .int .i64 (cellR c L seq x t p).2.2.2]) ∧ Kept (fun _ => False) w w' := rCell_calls hL hm hs c hb who seq x t p
theorem rWordA {w : World} {A : Option Addr} {m cp : Nat} {L : List OutD} (hL : L.length = m) (hm : m ≤ maxLen) (hs : SlAt w A 3 (L.map OutD.cells)) (c : CfgD) (hb : c.Bd) (who seq : Int) (x : XvD) (t : TpD) (b k : Int) :
    Calls Try.prog 61 #[.agg (rvA c who seq x.held x.stale), .agg (tpA (.slice A m cp) t), .int .i64 b, .int .i64 k] w fun e w' => e = .returned (.tuple #[.agg (rvA c who seq (wordR c L who seq x t b k).1.held (wordR c L who seq x t b k).1.stale), .agg (tpA (.slice A m cp) (wordR c L who seq x t b k).2.1), .int .u64 (wordR c L who seq x t b k).2.2.1, .int .i64 (wordR c L who seq x t b k).2.2.2]) ∧ Kept (fun _ => False) w w' := rWord_calls hL hm hs c hb who seq x t b k
attribute [local go_sem ↓] ldTape_eq stTape_eq ldRv_eq stRv_eq loadCfg_eq
set_option maxRecDepth 100000 in
set_option maxHeartbeats 2000000 in
theorem does_cell {w : World} {A : Option Addr} {m cp : Nat} {L : List OutD} (hL : L.length = m) (hm : m ≤ maxLen) (hs : SlAt w A 3 (L.map OutD.cells)) (c : CfgD) (hb : c.Bd) (who seq : Int) (x : XvD) (t : TpD) (qk qa qb : Int)
    (h0 : qk = 0) :
    Calls Try.prog 14 #[.agg (rvA c who seq x.held x.stale), .agg (tpA (.slice A m cp) t), .agg #[.int .i64 qk, .int .i64 qa, .int .i64 qb]] w fun e w' => e = .returned (rdV c who seq (.slice A m cp) (doesR c L who seq x t qk qa qb)) ∧ Kept (fun _ => False) w w' := by
  have HS := Lib.hid hs
  have HL := Lib.hid hL
  have HM := Lib.hid hm
  have HBd := Lib.hid hb
  have HV0 : Hid (Blk (((((w.alloc (.cells (rvA c who seq x.held x.stale) 34)).alloc (.cells (tpA (.slice A m cp) t) 47)).alloc (.cells #[.int .i64 qk, .int .i64 qa, .int .i64 qb] 38)).alloc (.cells rv0 34)).alloc (.cells tp0 47)) w.heap.size 34 (rvA c who seq x.held x.stale)) := Lib.hid (((((Blk.new _ _ _).alloc _).alloc _).alloc _).alloc _)
  have HT0 : Hid (Blk (((((w.alloc (.cells (rvA c who seq x.held x.stale) 34)).alloc (.cells (tpA (.slice A m cp) t) 47)).alloc (.cells #[.int .i64 qk, .int .i64 qa, .int .i64 qb] 38)).alloc (.cells rv0 34)).alloc (.cells tp0 47)) (w.heap.size + 1) 47 (tpA (.slice A m cp) t)) := Lib.hid ((((Blk.new' _ _ _ _ (by simp)).alloc _).alloc _).alloc _)
  have HX0 : Hid (Blk (((((w.alloc (.cells (rvA c who seq x.held x.stale) 34)).alloc (.cells (tpA (.slice A m cp) t) 47)).alloc (.cells #[.int .i64 qk, .int .i64 qa, .int .i64 qb] 38)).alloc (.cells rv0 34)).alloc (.cells tp0 47)) (w.heap.size + 1 + 1 + 1) 34 rv0) := Lib.hid ((Blk.new' _ _ _ _ (by simp)).alloc _)
  have HZ0 : Hid (Blk (((((w.alloc (.cells (rvA c who seq x.held x.stale) 34)).alloc (.cells (tpA (.slice A m cp) t) 47)).alloc (.cells #[.int .i64 qk, .int .i64 qa, .int .i64 qb] 38)).alloc (.cells rv0 34)).alloc (.cells tp0 47)) (w.heap.size + 1 + 1 + 1 + 1) 47 tp0) := Lib.hid (Blk.new' _ _ _ _ (by simp))
  have HK0 : Hid (Kept (fun _ => False) w (((((w.alloc (.cells (rvA c who seq x.held x.stale) 34)).alloc (.cells (tpA (.slice A m cp) t) 47)).alloc (.cells #[.int .i64 qk, .int .i64 qa, .int .i64 qb] 38)).alloc (.cells rv0 34)).alloc (.cells tp0 47))) := Lib.hid ((((((Kept.refl _ _).alloc _).alloc _).alloc _).alloc _).alloc _)
  have hc0 := loadCfg_view HV0.out
  have hl0 := ldTape_blk HT0.out rfl
  have hv0 := ldRv_blk HV0.out rfl
  have HE : Hid (doesR c L who seq x t qk qa qb = cellR c L seq x t qa) := Lib.hid (by unfold doesR; rw [if_pos h0])
  have e0 : (qk == 0) = true := by simpa using h0
  unfold tp0 rv0 at hc0 hl0 hv0
  clear hs hL hm hb h0
  go_enter Try.func14, Try.ntmps14
  go_wp2_with (go_at_call 60; ((refine (rCellA HL.out HM.out (HS.out.kept HK0.out) c HBd.out who seq x t qa).mono ?_); rintro e w5 ⟨rfl, hk5⟩; (
      obtain ⟨q, hq⟩ : ∃ q, q = cellR c L seq x t qa := ⟨_, rfl⟩
      rw [← hq]
      rw [← hq] at HE
      clear hq
      obtain ⟨w6, hst6, hB6, hK6⟩ := stV_blk (ty := 34) (cells := rvA c who seq q.1.held q.1.stale) (hk5.blk HX0.out (fun h => h)) (by kernel_rfl) rfl (rvA_one _ _ _ _ _)
      obtain ⟨w7, hst7, hB7, hK7⟩ := stV_blk (ty := 47) (cells := tpA (.slice A m cp) q.2.1) (hK6.blk (hk5.blk HZ0.out (fun h => h)) (by omega)) (by kernel_rfl) rfl (tpA_one _ _ rfl)
      have HB6 := Lib.hid (hK7.blk hB6 (by omega))
      have HB7 := Lib.hid hB7
      have HK7 := Lib.hid (Kept.fresh9 (Kept.fresh9 (HK0.out.trans hk5) hK6 (by omega)) hK7 (by omega))
      clear hk5 hB6 hK6 hB7 hK7)))
  exact bodyPost_ret (v := rdV c who seq (.slice A m cp) q) (results_cctt (r := 8) (r2 := 9) _ _ (w.heap.size + 1 + 1 + 1) 34 (rvA c who seq q.1.held q.1.stale) (0, 0) _ rfl HB6.out Try.underlying34 rfl (by kernel_rfl) (w.heap.size + 1 + 1 + 1 + 1) 47 (tpA (.slice A m cp) q.2.1) (0, 0) _ rfl HB7.out Try.underlying47 rfl (by kernel_rfl) rfl) rfl ⟨by rw [HE.out], HK7.out⟩
set_option maxRecDepth 100000 in
set_option maxHeartbeats 2000000 in
theorem does_word {w : World} {A : Option Addr} {m cp : Nat} {L : List OutD} (hL : L.length = m) (hm : m ≤ maxLen) (hs : SlAt w A 3 (L.map OutD.cells)) (c : CfgD) (hb : c.Bd) (who seq : Int) (x : XvD) (t : TpD) (qk qa qb : Int)
    (h0 : ¬ qk = 0) (h1 : qk = 1) :
    Calls Try.prog 14 #[.agg (rvA c who seq x.held x.stale), .agg (tpA (.slice A m cp) t), .agg #[.int .i64 qk, .int .i64 qa, .int .i64 qb]] w fun e w' => e = .returned (rdV c who seq (.slice A m cp) (doesR c L who seq x t qk qa qb)) ∧ Kept (fun _ => False) w w' := by
  have HS := Lib.hid hs
  have HL := Lib.hid hL
  have HM := Lib.hid hm
  have HBd := Lib.hid hb
  have HV0 : Hid (Blk (((((w.alloc (.cells (rvA c who seq x.held x.stale) 34)).alloc (.cells (tpA (.slice A m cp) t) 47)).alloc (.cells #[.int .i64 qk, .int .i64 qa, .int .i64 qb] 38)).alloc (.cells rv0 34)).alloc (.cells tp0 47)) w.heap.size 34 (rvA c who seq x.held x.stale)) := Lib.hid (((((Blk.new _ _ _).alloc _).alloc _).alloc _).alloc _)
  have HT0 : Hid (Blk (((((w.alloc (.cells (rvA c who seq x.held x.stale) 34)).alloc (.cells (tpA (.slice A m cp) t) 47)).alloc (.cells #[.int .i64 qk, .int .i64 qa, .int .i64 qb] 38)).alloc (.cells rv0 34)).alloc (.cells tp0 47)) (w.heap.size + 1) 47 (tpA (.slice A m cp) t)) := Lib.hid ((((Blk.new' _ _ _ _ (by simp)).alloc _).alloc _).alloc _)
  have HX0 : Hid (Blk (((((w.alloc (.cells (rvA c who seq x.held x.stale) 34)).alloc (.cells (tpA (.slice A m cp) t) 47)).alloc (.cells #[.int .i64 qk, .int .i64 qa, .int .i64 qb] 38)).alloc (.cells rv0 34)).alloc (.cells tp0 47)) (w.heap.size + 1 + 1 + 1) 34 rv0) := Lib.hid ((Blk.new' _ _ _ _ (by simp)).alloc _)
  have HZ0 : Hid (Blk (((((w.alloc (.cells (rvA c who seq x.held x.stale) 34)).alloc (.cells (tpA (.slice A m cp) t) 47)).alloc (.cells #[.int .i64 qk, .int .i64 qa, .int .i64 qb] 38)).alloc (.cells rv0 34)).alloc (.cells tp0 47)) (w.heap.size + 1 + 1 + 1 + 1) 47 tp0) := Lib.hid (Blk.new' _ _ _ _ (by simp))
  have HK0 : Hid (Kept (fun _ => False) w (((((w.alloc (.cells (rvA c who seq x.held x.stale) 34)).alloc (.cells (tpA (.slice A m cp) t) 47)).alloc (.cells #[.int .i64 qk, .int .i64 qa, .int .i64 qb] 38)).alloc (.cells rv0 34)).alloc (.cells tp0 47))) := Lib.hid ((((((Kept.refl _ _).alloc _).alloc _).alloc _).alloc _).alloc _)
  have hc0 := loadCfg_view HV0.out
  have hl0 := ldTape_blk HT0.out rfl
  have hv0 := ldRv_blk HV0.out rfl
  have HE : Hid (doesR c L who seq x t qk qa qb = wordR c L who seq x t qb qa) := Lib.hid (by unfold doesR; rw [if_neg h0, if_pos h1])
  have e0 : (qk == 0) = false := by simpa using h0
  have e1 : (qk == 1) = true := by simpa using h1
  unfold tp0 rv0 at hc0 hl0 hv0
  clear hs hL hm hb h0 h1
  go_enter Try.func14, Try.ntmps14
  go_wp2_with (go_at_call 61; ((refine (rWordA HL.out HM.out (HS.out.kept HK0.out) c HBd.out who seq x t qb qa).mono ?_); rintro e w5 ⟨rfl, hk5⟩; (
      obtain ⟨q, hq⟩ : ∃ q, q = wordR c L who seq x t qb qa := ⟨_, rfl⟩
      rw [← hq]
      rw [← hq] at HE
      clear hq
      obtain ⟨w6, hst6, hB6, hK6⟩ := stV_blk (ty := 34) (cells := rvA c who seq q.1.held q.1.stale) (hk5.blk HX0.out (fun h => h)) (by kernel_rfl) rfl (rvA_one _ _ _ _ _)
      obtain ⟨w7, hst7, hB7, hK7⟩ := stV_blk (ty := 47) (cells := tpA (.slice A m cp) q.2.1) (hK6.blk (hk5.blk HZ0.out (fun h => h)) (by omega)) (by kernel_rfl) rfl (tpA_one _ _ rfl)
      have HB6 := Lib.hid (hK7.blk hB6 (by omega))
      have HB7 := Lib.hid hB7
      have HK7 := Lib.hid (Kept.fresh9 (Kept.fresh9 (HK0.out.trans hk5) hK6 (by omega)) hK7 (by omega))
      clear hk5 hB6 hK6 hB7 hK7)))
  exact bodyPost_ret (v := rdV c who seq (.slice A m cp) q) (results_cctt (r := 8) (r2 := 9) _ _ (w.heap.size + 1 + 1 + 1) 34 (rvA c who seq q.1.held q.1.stale) (0, 0) _ rfl HB6.out Try.underlying34 rfl (by kernel_rfl) (w.heap.size + 1 + 1 + 1 + 1) 47 (tpA (.slice A m cp) q.2.1) (0, 0) _ rfl HB7.out Try.underlying47 rfl (by kernel_rfl) rfl) rfl ⟨by rw [HE.out], HK7.out⟩
set_option maxRecDepth 100000 in
set_option maxHeartbeats 2000000 in
theorem does_live {w : World} {A : Option Addr} {m cp : Nat} {L : List OutD} (hL : L.length = m) (hm : m ≤ maxLen) (hs : SlAt w A 3 (L.map OutD.cells)) (c : CfgD) (hb : c.Bd) (who seq : Int) (x : XvD) (t : TpD) (qk qa qb : Int)
    (h0 : ¬ qk = 0) (h1 : ¬ qk = 1) (h2 : qk = 2) :
    Calls Try.prog 14 #[.agg (rvA c who seq x.held x.stale), .agg (tpA (.slice A m cp) t), .agg #[.int .i64 qk, .int .i64 qa, .int .i64 qb]] w fun e w' => e = .returned (rdV c who seq (.slice A m cp) (doesR c L who seq x t qk qa qb)) ∧ Kept (fun _ => False) w w' := by
  have HS := Lib.hid hs
  have HL := Lib.hid hL
  have HM := Lib.hid hm
  have HBd := Lib.hid hb
  have HV0 : Hid (Blk (((((w.alloc (.cells (rvA c who seq x.held x.stale) 34)).alloc (.cells (tpA (.slice A m cp) t) 47)).alloc (.cells #[.int .i64 qk, .int .i64 qa, .int .i64 qb] 38)).alloc (.cells rv0 34)).alloc (.cells tp0 47)) w.heap.size 34 (rvA c who seq x.held x.stale)) := Lib.hid (((((Blk.new _ _ _).alloc _).alloc _).alloc _).alloc _)
  have HT0 : Hid (Blk (((((w.alloc (.cells (rvA c who seq x.held x.stale) 34)).alloc (.cells (tpA (.slice A m cp) t) 47)).alloc (.cells #[.int .i64 qk, .int .i64 qa, .int .i64 qb] 38)).alloc (.cells rv0 34)).alloc (.cells tp0 47)) (w.heap.size + 1) 47 (tpA (.slice A m cp) t)) := Lib.hid ((((Blk.new' _ _ _ _ (by simp)).alloc _).alloc _).alloc _)
  have HX0 : Hid (Blk (((((w.alloc (.cells (rvA c who seq x.held x.stale) 34)).alloc (.cells (tpA (.slice A m cp) t) 47)).alloc (.cells #[.int .i64 qk, .int .i64 qa, .int .i64 qb] 38)).alloc (.cells rv0 34)).alloc (.cells tp0 47)) (w.heap.size + 1 + 1 + 1) 34 rv0) := Lib.hid ((Blk.new' _ _ _ _ (by simp)).alloc _)
  have HZ0 : Hid (Blk (((((w.alloc (.cells (rvA c who seq x.held x.stale) 34)).alloc (.cells (tpA (.slice A m cp) t) 47)).alloc (.cells #[.int .i64 qk, .int .i64 qa, .int .i64 qb] 38)).alloc (.cells rv0 34)).alloc (.cells tp0 47)) (w.heap.size + 1 + 1 + 1 + 1) 47 tp0) := Lib.hid (Blk.new' _ _ _ _ (by simp))
  have HK0 : Hid (Kept (fun _ => False) w (((((w.alloc (.cells (rvA c who seq x.held x.stale) 34)).alloc (.cells (tpA (.slice A m cp) t) 47)).alloc (.cells #[.int .i64 qk, .int .i64 qa, .int .i64 qb] 38)).alloc (.cells rv0 34)).alloc (.cells tp0 47))) := Lib.hid ((((((Kept.refl _ _).alloc _).alloc _).alloc _).alloc _).alloc _)
  have hc0 := loadCfg_view HV0.out
  have hl0 := ldTape_blk HT0.out rfl
  have hv0 := ldRv_blk HV0.out rfl
  have HE : Hid (doesR c L who seq x t qk qa qb = ((liveR c L who seq x t qb).1, (liveR c L who seq x t qb).2.1, 0, (liveR c L who seq x t qb).2.2)) := Lib.hid (by unfold doesR; rw [if_neg h0, if_neg h1, if_pos h2])
  have e0 : (qk == 0) = false := by simpa using h0
  have e1 : (qk == 1) = false := by simpa using h1
  have e2 : (qk == 2) = true := by simpa using h2
  have HR : Hid (∃ r, r = liveR c L who seq x t qb) := Lib.hid ⟨_, rfl⟩
  unfold tp0 rv0 at hc0 hl0 hv0
  clear hs hL hm hb h0 h1 h2
  go_enter Try.func14, Try.ntmps14
  go_wp2_with (go_at_call 62; ((refine (rLiveA HL.out HM.out (HS.out.kept HK0.out) c HBd.out who seq x t qb).mono ?_); rintro e w1 ⟨rfl, hk1⟩; (
      obtain ⟨r, hr⟩ := HR.out
      rw [← hr]
      rw [← hr] at HE
      clear hr
      have hz : w.heap.size + 5 ≤ w1.heap.size := by have := HZ0.out.lt; have := hk1.size; omega
      have HX1 := ((hk1.blk HX0.out (fun h => h)).alloc (.cells rv0 34)).alloc (.cells tp0 47)
      have HZ1 := ((hk1.blk HZ0.out (fun h => h)).alloc (.cells rv0 34)).alloc (.cells tp0 47)
      have HY1 : Blk ((w1.alloc (.cells rv0 34)).alloc (.cells tp0 47)) w1.heap.size 34 rv0 := (Blk.new _ _ _).alloc _
      have HU1 : Blk ((w1.alloc (.cells rv0 34)).alloc (.cells tp0 47)) (w1.heap.size + 1) 47 tp0 := Blk.new' _ _ _ _ (by simp)
      have HK1 := ((HK0.out.trans hk1).alloc (.cells rv0 34)).alloc (.cells tp0 47)
      obtain ⟨w3, hst3, hB3, hK3⟩ := stV_blk (ty := 34) (cells := rvA c who seq r.1.held r.1.stale) HY1 (by kernel_rfl) rfl (rvA_one _ _ _ _ _)
      obtain ⟨w4, hst4, hB4, hK4⟩ := stV_blk (ty := 47) (cells := tpA (.slice A m cp) r.2.1) (hK3.blk HU1 (by omega)) (by kernel_rfl) rfl (tpA_one _ _ rfl)
      have HY4 := Blk.drew (hK4.blk hB3 (by omega))
      have HU4 := Blk.drew hB4
      have HX4 := Blk.drew (hK4.blk (hK3.blk HX1 (by omega)) (by omega))
      have HZ4 := Blk.drew (hK4.blk (hK3.blk HZ1 (by omega)) (by omega))
      have HK4 := Kept.drew (Kept.fresh9 (Kept.fresh9 HK1 hK3 (by omega)) hK4 (by omega))
      obtain ⟨w5, hst5, hB5, hK5⟩ := stV_blk (ty := 34) (cells := rvA c who seq r.1.held r.1.stale) HX4 (by kernel_rfl) rfl (rvA_one _ _ _ _ _)
      have HY5 := hK5.blk HY4 (by omega)
      have HU5 := hK5.blk HU4 (by omega)
      obtain ⟨w6, hst6, hB6, hK6⟩ := stV_blk (ty := 47) (cells := tpA (.slice A m cp) r.2.1) (hK5.blk HZ4 (by omega)) (by kernel_rfl) rfl (tpA_one _ _ rfl)
      have HY6 := hK6.blk HY5 (by omega)
      have HU6 := hK6.blk HU5 (by omega)
      have HB6 := Lib.hid (hK6.blk hB5 (by omega))
      have HB7 := Lib.hid hB6
      have HK7 := Lib.hid (Kept.fresh9 (Kept.fresh9 HK4 hK5 (by omega)) hK6 (by omega))
      have S4 := Lib.hid (And.intro (ldRv_blk HY4 rfl) (ldTape_blk HU4 rfl))
      have S5 := Lib.hid (And.intro (ldRv_blk HY5 rfl) (ldTape_blk HU5 rfl))
      have S6 := Lib.hid (And.intro (ldRv_blk HY6 rfl) (ldTape_blk HU6 rfl))
      unfold rv0 tp0 at hst3
      clear hk1 HX1 HZ1 HY1 HU1 HK1 hB3 hK3 hB4 hK4 HY4 HU4 HX4 HZ4 HK4 hB5 hK5 HY5 HU5 hB6 hK6 HY6 HU6 hz hl0 hv0 hc0)))
  go_region_held3 (fun w' => (ldRv ⟨w1.heap.size, 0, none⟩).run Try.prog w' = .ok (.agg (rvA c who seq r.1.held r.1.stale)) w' ∧ (ldTape ⟨w1.heap.size + 1, 0, none⟩).run Try.prog w' = .ok (.agg (tpA (.slice A m cp) r.2.1)) w')
        (first | exact S6.out | exact S5.out | exact S4.out) (fail)
  go_wp2_with fail
  exact bodyPost_ret (v := rdV c who seq (.slice A m cp) (r.1, r.2.1, 0, r.2.2)) (results_cctt (r := 8) (r2 := 9) _ _ (w.heap.size + 1 + 1 + 1) 34 (rvA c who seq r.1.held r.1.stale) (0, 0) _ rfl HB6.out Try.underlying34 rfl (by kernel_rfl) (w.heap.size + 1 + 1 + 1 + 1) 47 (tpA (.slice A m cp) r.2.1) (0, 0) _ rfl HB7.out Try.underlying47 rfl (by kernel_rfl) rfl) rfl ⟨by rw [HE.out], HK7.out⟩
set_option maxRecDepth 100000 in
set_option maxHeartbeats 2000000 in
theorem does_life {w : World} {A : Option Addr} {m cp : Nat} {L : List OutD} (hL : L.length = m) (hm : m ≤ maxLen) (hs : SlAt w A 3 (L.map OutD.cells)) (c : CfgD) (hb : c.Bd) (who seq : Int) (x : XvD) (t : TpD) (qk qa qb : Int)
    (h0 : ¬ qk = 0) (h1 : ¬ qk = 1) (h2 : ¬ qk = 2) :
    Calls Try.prog 14 #[.agg (rvA c who seq x.held x.stale), .agg (tpA (.slice A m cp) t), .agg #[.int .i64 qk, .int .i64 qa, .int .i64 qb]] w fun e w' => e = .returned (rdV c who seq (.slice A m cp) (doesR c L who seq x t qk qa qb)) ∧ Kept (fun _ => False) w w' := by
  have HS := Lib.hid hs
  have HL := Lib.hid hL
  have HM := Lib.hid hm
  have HBd := Lib.hid hb
  have HV0 : Hid (Blk (((((w.alloc (.cells (rvA c who seq x.held x.stale) 34)).alloc (.cells (tpA (.slice A m cp) t) 47)).alloc (.cells #[.int .i64 qk, .int .i64 qa, .int .i64 qb] 38)).alloc (.cells rv0 34)).alloc (.cells tp0 47)) w.heap.size 34 (rvA c who seq x.held x.stale)) := Lib.hid (((((Blk.new _ _ _).alloc _).alloc _).alloc _).alloc _)
  have HT0 : Hid (Blk (((((w.alloc (.cells (rvA c who seq x.held x.stale) 34)).alloc (.cells (tpA (.slice A m cp) t) 47)).alloc (.cells #[.int .i64 qk, .int .i64 qa, .int .i64 qb] 38)).alloc (.cells rv0 34)).alloc (.cells tp0 47)) (w.heap.size + 1) 47 (tpA (.slice A m cp) t)) := Lib.hid ((((Blk.new' _ _ _ _ (by simp)).alloc _).alloc _).alloc _)
  have HX0 : Hid (Blk (((((w.alloc (.cells (rvA c who seq x.held x.stale) 34)).alloc (.cells (tpA (.slice A m cp) t) 47)).alloc (.cells #[.int .i64 qk, .int .i64 qa, .int .i64 qb] 38)).alloc (.cells rv0 34)).alloc (.cells tp0 47)) (w.heap.size + 1 + 1 + 1) 34 rv0) := Lib.hid ((Blk.new' _ _ _ _ (by simp)).alloc _)
  have HZ0 : Hid (Blk (((((w.alloc (.cells (rvA c who seq x.held x.stale) 34)).alloc (.cells (tpA (.slice A m cp) t) 47)).alloc (.cells #[.int .i64 qk, .int .i64 qa, .int .i64 qb] 38)).alloc (.cells rv0 34)).alloc (.cells tp0 47)) (w.heap.size + 1 + 1 + 1 + 1) 47 tp0) := Lib.hid (Blk.new' _ _ _ _ (by simp))
  have HK0 : Hid (Kept (fun _ => False) w (((((w.alloc (.cells (rvA c who seq x.held x.stale) 34)).alloc (.cells (tpA (.slice A m cp) t) 47)).alloc (.cells #[.int .i64 qk, .int .i64 qa, .int .i64 qb] 38)).alloc (.cells rv0 34)).alloc (.cells tp0 47))) := Lib.hid ((((((Kept.refl _ _).alloc _).alloc _).alloc _).alloc _).alloc _)
  have hc0 := loadCfg_view HV0.out
  have hl0 := ldTape_blk HT0.out rfl
  have hv0 := ldRv_blk HV0.out rfl
  have HE : Hid (doesR c L who seq x t qk qa qb = cellR c L seq x t (c.at_ 10 (bits BinOp.and IntKind.i64 qa 15) 0)) := Lib.hid (by unfold doesR; rw [if_neg h0, if_neg h1, if_neg h2])
  have e0 : (qk == 0) = false := by simpa using h0
  have e1 : (qk == 1) = false := by simpa using h1
  have e2 : (qk == 2) = false := by simpa using h2
  have HVd := Lib.hid (Blk.drew HV0.out)
  have HTd := Lib.hid (Blk.drew HT0.out)
  have HQd : Hid (Blk (World.drew (((((w.alloc (.cells (rvA c who seq x.held x.stale) 34)).alloc (.cells (tpA (.slice A m cp) t) 47)).alloc (.cells #[.int .i64 qk, .int .i64 qa, .int .i64 qb] 38)).alloc (.cells rv0 34)).alloc (.cells tp0 47))) (w.heap.size + 1 + 1) 38 #[.int .i64 qk, .int .i64 qa, .int .i64 qb]) := Lib.hid (Blk.drew (((Blk.new' _ _ _ _ (by simp)).alloc _).alloc _))
  have S0 := Lib.hid (And.intro (ldRv_blk HVd.out rfl) (And.intro (ldTape_blk HTd.out rfl) (And.intro (loadCfg_view HVd.out) (Blk.cell HQd.out 1))))
  unfold tp0 rv0 at hc0 hl0 hv0
  clear hs hL hm hb h0 h1 h2
  go_enter Try.func14, Try.ntmps14
  go_wp2_with fail
  clear hl0 hv0 hc0
  go_region_held3 (fun w' => (ldRv ⟨w.heap.size, 0, none⟩).run Try.prog w' = .ok (.agg (rvA c who seq x.held x.stale)) w' ∧ (ldTape ⟨w.heap.size + 1, 0, none⟩).run Try.prog w' = .ok (.agg (tpA (.slice A m cp) t)) w' ∧ (loadCfg ⟨w.heap.size, 0, none⟩).run Try.prog w' = .ok (.agg (cfgA c)) w' ∧ w'.cell? ⟨w.heap.size + 1 + 1, 1, none⟩ = some (.int .i64 qa))
    (first | exact S7.out | exact S6.out | exact S5.out | exact S1.out | exact S0.out)
    ((first
    | (go_at_call 59; ((with_reducible refine (rAtA c HBd.out 10 _ _ _).mono ?_); rintro e w1 ⟨rfl, hk1⟩; (
      have HV1 := hk1.blk HVd.out (fun h => h); have HT1 := hk1.blk HTd.out (fun h => h); have HQ1 := hk1.blk HQd.out (fun h => h); have HX1 := hk1.blk (Blk.drew HX0.out) (fun h => h); have HZ1 := hk1.blk (Blk.drew HZ0.out) (fun h => h)
      have S1 := Lib.hid (And.intro (ldRv_blk HV1 rfl) (And.intro (ldTape_blk HT1 rfl) (And.intro (loadCfg_view HV1) (Blk.cell HQ1 1))))
      have HV1 := Lib.hid HV1; have HT1 := Lib.hid HT1; have HQ1 := Lib.hid HQ1; have HX1 := Lib.hid HX1; have HZ1 := Lib.hid HZ1; have HK1 := Lib.hid (HK0.out.drew.trans hk1); clear hk1)))
    | (go_at_call 60; ((with_reducible refine (rCellA HL.out HM.out (HS.out.kept HK1.out) c HBd.out who seq x t (c.at_ 10 (bits BinOp.and IntKind.i64 qa 15) 0)).mono ?_); rintro e w5 ⟨rfl, hk5⟩; (
      obtain ⟨q, hq⟩ : ∃ q, q = cellR c L seq x t (c.at_ 10 (bits BinOp.and IntKind.i64 qa 15) 0) := ⟨_, rfl⟩
      rw [← hq]
      rw [← hq] at HE
      clear hq
      have HV5 := hk5.blk HV1.out (fun h => h); have HT5 := hk5.blk HT1.out (fun h => h); have HQ5 := hk5.blk HQ1.out (fun h => h)
      have S5 := Lib.hid (And.intro (ldRv_blk HV5 rfl) (And.intro (ldTape_blk HT5 rfl) (And.intro (loadCfg_view HV5) (Blk.cell HQ5 1))))
      obtain ⟨w6, hst6, hB6, hK6⟩ := stV_blk (ty := 34) (cells := rvA c who seq q.1.held q.1.stale) (hk5.blk HX1.out (fun h => h)) (by kernel_rfl) rfl (rvA_one _ _ _ _ _)
      have HV6 := hK6.blk HV5 (by omega); have HT6 := hK6.blk HT5 (by omega); have HQ6 := hK6.blk HQ5 (by omega)
      have S6 := Lib.hid (And.intro (ldRv_blk HV6 rfl) (And.intro (ldTape_blk HT6 rfl) (And.intro (loadCfg_view HV6) (Blk.cell HQ6 1))))
      obtain ⟨w7, hst7, hB7, hK7⟩ := stV_blk (ty := 47) (cells := tpA (.slice A m cp) q.2.1) (hK6.blk (hk5.blk HZ1.out (fun h => h)) (by omega)) (by kernel_rfl) rfl (tpA_one _ _ rfl)
      have HV7 := hK7.blk HV6 (by omega); have HT7 := hK7.blk HT6 (by omega); have HQ7 := hK7.blk HQ6 (by omega)
      have S7 := Lib.hid (And.intro (ldRv_blk HV7 rfl) (And.intro (ldTape_blk HT7 rfl) (And.intro (loadCfg_view HV7) (Blk.cell HQ7 1))))
      have HB6 := Lib.hid (hK7.blk hB6 (by omega))
      have HB7 := Lib.hid hB7
      have HK7 := Lib.hid (Kept.fresh9 (Kept.fresh9 (HK1.out.trans hk5) hK6 (by omega)) hK7 (by omega))
      clear hk5 hB6 hK6 hB7 hK7 HV5 HT5 HQ5 HV6 HT6 HQ6 HV7 HT7 HQ7)))))
  go_wp2_with fail
  exact bodyPost_ret (v := rdV c who seq (.slice A m cp) q) (results_cctt (r := 8) (r2 := 9) _ _ (w.heap.size + 1 + 1 + 1) 34 (rvA c who seq q.1.held q.1.stale) (0, 0) _ rfl HB6.out Try.underlying34 rfl (by kernel_rfl) (w.heap.size + 1 + 1 + 1 + 1) 47 (tpA (.slice A m cp) q.2.1) (0, 0) _ rfl HB7.out Try.underlying47 rfl (by kernel_rfl) rfl) rfl ⟨by rw [HE.out], HK7.out⟩
theorem does_calls {w : World} {A : Option Addr} {m cp : Nat} {L : List OutD} (hL : L.length = m) (hm : m ≤ maxLen) (hs : SlAt w A 3 (L.map OutD.cells)) (c : CfgD) (hb : c.Bd) (who seq : Int) (x : XvD) (t : TpD) (qk qa qb : Int) :
    Calls Try.prog 14 #[.agg (rvA c who seq x.held x.stale), .agg (tpA (.slice A m cp) t), .agg #[.int .i64 qk, .int .i64 qa, .int .i64 qb]] w fun e w' => e = .returned (rdV c who seq (.slice A m cp) (doesR c L who seq x t qk qa qb)) ∧ Kept (fun _ => False) w w' := by
  by_cases h0 : qk = 0
  · exact does_cell hL hm hs c hb who seq x t qk qa qb h0
  · by_cases h1 : qk = 1
    · exact does_word hL hm hs c hb who seq x t qk qa qb h0 h1
    · by_cases h2 : qk = 2
      · exact does_live hL hm hs c hb who seq x t qk qa qb h0 h1 h2
      · exact does_life hL hm hs c hb who seq x t qk qa qb h0 h1 h2
end Go.Proofs.Ythjkodjpopcjaaa
