/- The document's view: Cell. -/
import Derived.Test.YthjkodjpopcjaaaVwQ
namespace Go.Proofs.Ythjkodjpopcjaaa
open Go.RowKit

def cellR (c : CfgD) (L : List OutD) (seq : Int) (x : XvD) (t : TpD) (p : Int) : RdR := if x.stale then (x, t, 0, 2) else if p < c.ans ∨ c.word ≤ p then (x, t, 0, 3) else loadR L seq x t p
theorem loadCfg_view {w : World} {B : Nat} {c : CfgD} {who seq : Int} {x : XvD} (h : Blk w B 34 (rvA c who seq x.held x.stale)) : (loadCfg ⟨B, 0, none⟩).run Try.prog w = .ok (.agg (cfgA c)) w :=
  run_loadVar_mid w B 0 24 (cfgA c).toList _ (fun j u hu => by
    rw [Blk.cell h, ← hu, Nat.zero_add]
    match j with
    | 0 | 1 | 2 | 3 | 4 | 5 => rfl
    | n + 6 => simp [cfgA] at hu) Try.underlying24 rfl (by kernel_rfl)
theorem from7A (c : CfgD) (h : c.Bd) (w : World) : Calls Try.prog 87 #[.agg (cfgA c), .int .i64 7] w fun e w' => e = .returned (.int .i64 c.ans) ∧ Kept (fun _ => False) w w' := from_7 c h w
theorem from16A (c : CfgD) (h : c.Bd) (w : World) : Calls Try.prog 87 #[.agg (cfgA c), .int .i64 16] w fun e w' => e = .returned (.int .i64 c.word) ∧ Kept (fun _ => False) w w' := from_16 c h w
theorem rloadA {w : World} {A : Option Addr} {m cp : Nat} {L : List OutD} (hL : L.length = m) (hm : m ≤ maxLen) (hs : SlAt w A 3 (L.map OutD.cells)) (c : CfgD) (who seq : Int) (x : XvD) (t : TpD) (p : Int) :
    Calls Try.prog 88 #[.agg (rvA c who seq x.held x.stale), .agg (tpA (.slice A m cp) t), .int .i64 p] w fun e w' => e = .returned (.tuple #[.agg (rvA c who seq (loadR L seq x t p).1.held (loadR L seq x t p).1.stale), .agg (tpA (.slice A m cp) (loadR L seq x t p).2.1), .int .u64 (loadR L seq x t p).2.2.1, .int .i64 (loadR L seq x t p).2.2.2]) ∧ Kept (fun _ => False) w w' := rload_calls hL hm hs c who seq x t p
attribute [local go_sem ↓] ldTape_eq stTape_eq ldRv_eq stRv_eq loadCfg_eq
set_option maxRecDepth 100000 in
set_option maxHeartbeats 2000000 in
theorem rCell_stale {w : World} {A : Option Addr} {m cp : Nat} {L : List OutD} (hL : L.length = m) (hm : m ≤ maxLen) (hs : SlAt w A 3 (L.map OutD.cells)) (c : CfgD) (hb : c.Bd) (who seq : Int) (x : XvD) (t : TpD) (p : Int)
    (h : x.stale = true) :
    Calls Try.prog 60 #[.agg (rvA c who seq x.held x.stale), .agg (tpA (.slice A m cp) t), .int .i64 p] w fun e w' => e = .returned (rdV c who seq (.slice A m cp) (cellR c L seq x t p)) ∧ Kept (fun _ => False) w w' := by
  have HS := Lib.hid hs
  have HL := Lib.hid hL
  have HM := Lib.hid hm
  have HBd := Lib.hid hb
  have HV0 : Hid (Blk ((((w.alloc (.cells (rvA c who seq x.held x.stale) 34)).alloc (.cells (tpA (.slice A m cp) t) 47)).alloc (.cells rv0 34)).alloc (.cells tp0 47)) w.heap.size 34 (rvA c who seq x.held x.stale)) := Lib.hid ((((Blk.new _ _ _).alloc _).alloc _).alloc _)
  have HT0 : Hid (Blk ((((w.alloc (.cells (rvA c who seq x.held x.stale) 34)).alloc (.cells (tpA (.slice A m cp) t) 47)).alloc (.cells rv0 34)).alloc (.cells tp0 47)) (w.heap.size + 1) 47 (tpA (.slice A m cp) t)) := Lib.hid (((Blk.new' _ _ _ _ (by simp)).alloc _).alloc _)
  have HX0 : Hid (Blk ((((w.alloc (.cells (rvA c who seq x.held x.stale) 34)).alloc (.cells (tpA (.slice A m cp) t) 47)).alloc (.cells rv0 34)).alloc (.cells tp0 47)) (w.heap.size + 1 + 1) 34 rv0) := Lib.hid ((Blk.new' _ _ _ _ (by simp)).alloc _)
  have HZ0 : Hid (Blk ((((w.alloc (.cells (rvA c who seq x.held x.stale) 34)).alloc (.cells (tpA (.slice A m cp) t) 47)).alloc (.cells rv0 34)).alloc (.cells tp0 47)) (w.heap.size + 1 + 1 + 1) 47 tp0) := Lib.hid (Blk.new' _ _ _ _ (by simp))
  have HK0 : Hid (Kept (fun _ => False) w ((((w.alloc (.cells (rvA c who seq x.held x.stale) 34)).alloc (.cells (tpA (.slice A m cp) t) 47)).alloc (.cells rv0 34)).alloc (.cells tp0 47))) := Lib.hid (((((Kept.refl _ _).alloc _).alloc _).alloc _).alloc _)
  have n0 : (rvA c who seq x.held x.stale)[9]? = some (.bool x.stale) := rfl
  have hc0 := loadCfg_view HV0.out
  have HE : Hid (cellR c L seq x t p = (x, t, 0, 2)) := Lib.hid (by unfold cellR; rw [if_pos h])
  replace n0 : (rvA c who seq x.held x.stale)[9]? = some (.bool true) := by rw [n0, h]
  unfold tp0 rv0 at hc0
  clear hs hL hm hb h
  obtain ⟨w5, hst5, hB5, hK5⟩ := stV_blk (ty := 34) (cells := (rvA c who seq x.held x.stale)) HX0.out.drew (by kernel_rfl) rfl (rvA_one _ _ _ _ _)
  have HV5 := hK5.blk HV0.out.drew (by omega)
  have HT5 := hK5.blk HT0.out.drew (by omega)
  obtain ⟨w6, hst6, hB6, hK6⟩ := stV_blk (ty := 47) (cells := tpA (.slice A m cp) t) (hK5.blk HZ0.out.drew (by omega)) (by kernel_rfl) rfl (tpA_one _ _ rfl)
  have HV6 := hK6.blk HV5 (by omega)
  have HT6 := hK6.blk HT5 (by omega)
  have HB5 := Lib.hid (hK6.blk hB5 (by omega))
  have HB6 := Lib.hid hB6
  have HK6 := Lib.hid (Kept.fresh9 (Kept.fresh9 HK0.out.drew hK5 (by omega)) hK6 (by omega))
  have S4 := Lib.hid (And.intro (ldRv_blk HV0.out.drew rfl) (ldTape_blk HT0.out.drew rfl))
  have S5 := Lib.hid (And.intro (ldRv_blk HV5 rfl) (ldTape_blk HT5 rfl))
  have S6 := Lib.hid (And.intro (ldRv_blk HV6 rfl) (ldTape_blk HT6 rfl))
  unfold tp0 rv0 at hst5
  clear hB5 hK5 HV5 HT5 hB6 hK6 HV6 HT6
  go_enter Try.func60, Try.ntmps60
  go_wp2_with fail
  go_region_held3 (fun w' => (ldRv ⟨w.heap.size, 0, none⟩).run Try.prog w' = .ok (.agg (rvA c who seq x.held x.stale)) w' ∧ (ldTape ⟨w.heap.size + 1, 0, none⟩).run Try.prog w' = .ok (.agg (tpA (.slice A m cp) t)) w')
        (first | exact S6.out | exact S5.out | exact S4.out) (fail)
  go_wp2_with fail
  exact bodyPost_ret (v := rdV c who seq (.slice A m cp) (x, t, 0, 2)) (results_cctt (r := 8) (r2 := 9) _ _ (w.heap.size + 1 + 1) 34 (rvA c who seq x.held x.stale) (0, 0) _ rfl HB5.out Try.underlying34 rfl (by kernel_rfl) (w.heap.size + 1 + 1 + 1) 47 (tpA (.slice A m cp) t) (0, 0) _ rfl HB6.out Try.underlying47 rfl (by kernel_rfl) rfl) rfl ⟨by rw [HE.out], HK6.out⟩
set_option maxRecDepth 100000 in
set_option maxHeartbeats 2000000 in
theorem rCell_low {w : World} {A : Option Addr} {m cp : Nat} {L : List OutD} (hL : L.length = m) (hm : m ≤ maxLen) (hs : SlAt w A 3 (L.map OutD.cells)) (c : CfgD) (hb : c.Bd) (who seq : Int) (x : XvD) (t : TpD) (p : Int)
    (h : x.stale = false) (h2 : p < c.ans) :
    Calls Try.prog 60 #[.agg (rvA c who seq x.held x.stale), .agg (tpA (.slice A m cp) t), .int .i64 p] w fun e w' => e = .returned (rdV c who seq (.slice A m cp) (cellR c L seq x t p)) ∧ Kept (fun _ => False) w w' := by
  have HS := Lib.hid hs
  have HL := Lib.hid hL
  have HM := Lib.hid hm
  have HBd := Lib.hid hb
  have HV0 : Hid (Blk ((((w.alloc (.cells (rvA c who seq x.held x.stale) 34)).alloc (.cells (tpA (.slice A m cp) t) 47)).alloc (.cells rv0 34)).alloc (.cells tp0 47)) w.heap.size 34 (rvA c who seq x.held x.stale)) := Lib.hid ((((Blk.new _ _ _).alloc _).alloc _).alloc _)
  have HT0 : Hid (Blk ((((w.alloc (.cells (rvA c who seq x.held x.stale) 34)).alloc (.cells (tpA (.slice A m cp) t) 47)).alloc (.cells rv0 34)).alloc (.cells tp0 47)) (w.heap.size + 1) 47 (tpA (.slice A m cp) t)) := Lib.hid (((Blk.new' _ _ _ _ (by simp)).alloc _).alloc _)
  have HX0 : Hid (Blk ((((w.alloc (.cells (rvA c who seq x.held x.stale) 34)).alloc (.cells (tpA (.slice A m cp) t) 47)).alloc (.cells rv0 34)).alloc (.cells tp0 47)) (w.heap.size + 1 + 1) 34 rv0) := Lib.hid ((Blk.new' _ _ _ _ (by simp)).alloc _)
  have HZ0 : Hid (Blk ((((w.alloc (.cells (rvA c who seq x.held x.stale) 34)).alloc (.cells (tpA (.slice A m cp) t) 47)).alloc (.cells rv0 34)).alloc (.cells tp0 47)) (w.heap.size + 1 + 1 + 1) 47 tp0) := Lib.hid (Blk.new' _ _ _ _ (by simp))
  have HK0 : Hid (Kept (fun _ => False) w ((((w.alloc (.cells (rvA c who seq x.held x.stale) 34)).alloc (.cells (tpA (.slice A m cp) t) 47)).alloc (.cells rv0 34)).alloc (.cells tp0 47))) := Lib.hid (((((Kept.refl _ _).alloc _).alloc _).alloc _).alloc _)
  have n0 : (rvA c who seq x.held x.stale)[9]? = some (.bool x.stale) := rfl
  have hc0 := loadCfg_view HV0.out
  have HE : Hid (cellR c L seq x t p = (x, t, 0, 3)) := Lib.hid (by unfold cellR; rw [if_neg (by simp [h]), if_pos (.inl h2)])
  replace n0 : (rvA c who seq x.held x.stale)[9]? = some (.bool false) := by rw [n0, h]
  unfold tp0 rv0 at hc0
  clear hs hL hm hb h
  go_enter Try.func60, Try.ntmps60
  go_wp2_with (first
    | (go_at_call 87; ((with_reducible refine (from7A c HBd.out _).mono ?_); rintro e w1 ⟨rfl, hk1⟩; (
      have HV1 := Lib.hid (hk1.blk HV0.out (fun h => h)); have HT1 := Lib.hid (hk1.blk HT0.out (fun h => h)); have HX1 := Lib.hid (hk1.blk HX0.out (fun h => h)); have HZ1 := Lib.hid (hk1.blk HZ0.out (fun h => h)); have HK1 := Lib.hid (HK0.out.trans hk1); have hc1 := loadCfg_view HV1.out; clear hk1 hc0)))
    | (go_at_call 87; ((with_reducible refine (from16A c HBd.out _).mono ?_); rintro e w2 ⟨rfl, hk2⟩; (
      have HV2 := Lib.hid (hk2.blk HV1.out (fun h => h)); have HT2 := Lib.hid (hk2.blk HT1.out (fun h => h)); have HX2 := Lib.hid (hk2.blk HX1.out (fun h => h)); have HZ2 := Lib.hid (hk2.blk HZ1.out (fun h => h)); have HK2 := Lib.hid (HK1.out.trans hk2); clear hk2 hc1))))
  obtain ⟨w5, hst5, hB5, hK5⟩ := stV_blk (ty := 34) (cells := (rvA c who seq x.held x.stale)) HX1.out.drew (by kernel_rfl) rfl (rvA_one _ _ _ _ _)
  have HV5 := hK5.blk HV1.out.drew (by omega)
  have HT5 := hK5.blk HT1.out.drew (by omega)
  obtain ⟨w6, hst6, hB6, hK6⟩ := stV_blk (ty := 47) (cells := tpA (.slice A m cp) t) (hK5.blk HZ1.out.drew (by omega)) (by kernel_rfl) rfl (tpA_one _ _ rfl)
  have HV6 := hK6.blk HV5 (by omega)
  have HT6 := hK6.blk HT5 (by omega)
  have HB5 := Lib.hid (hK6.blk hB5 (by omega))
  have HB6 := Lib.hid hB6
  have HK6 := Lib.hid (Kept.fresh9 (Kept.fresh9 HK1.out.drew hK5 (by omega)) hK6 (by omega))
  have S4 := Lib.hid (And.intro (ldRv_blk HV1.out.drew rfl) (ldTape_blk HT1.out.drew rfl))
  have S5 := Lib.hid (And.intro (ldRv_blk HV5 rfl) (ldTape_blk HT5 rfl))
  have S6 := Lib.hid (And.intro (ldRv_blk HV6 rfl) (ldTape_blk HT6 rfl))
  skip
  clear hB5 hK5 HV5 HT5 hB6 hK6 HV6 HT6
  go_region_held3 (fun w' => (ldRv ⟨w.heap.size, 0, none⟩).run Try.prog w' = .ok (.agg (rvA c who seq x.held x.stale)) w' ∧ (ldTape ⟨w.heap.size + 1, 0, none⟩).run Try.prog w' = .ok (.agg (tpA (.slice A m cp) t)) w')
        (first | exact S6.out | exact S5.out | exact S4.out) (fail)
  go_wp2_with fail
  exact bodyPost_ret (v := rdV c who seq (.slice A m cp) (x, t, 0, 3)) (results_cctt (r := 8) (r2 := 9) _ _ (w.heap.size + 1 + 1) 34 (rvA c who seq x.held x.stale) (0, 0) _ rfl HB5.out Try.underlying34 rfl (by kernel_rfl) (w.heap.size + 1 + 1 + 1) 47 (tpA (.slice A m cp) t) (0, 0) _ rfl HB6.out Try.underlying47 rfl (by kernel_rfl) rfl) rfl ⟨by rw [HE.out], HK6.out⟩
set_option maxRecDepth 100000 in
set_option maxHeartbeats 2000000 in
theorem rCell_high {w : World} {A : Option Addr} {m cp : Nat} {L : List OutD} (hL : L.length = m) (hm : m ≤ maxLen) (hs : SlAt w A 3 (L.map OutD.cells)) (c : CfgD) (hb : c.Bd) (who seq : Int) (x : XvD) (t : TpD) (p : Int)
    (h : x.stale = false) (h2 : ¬ p < c.ans) (h3 : c.word ≤ p) :
    Calls Try.prog 60 #[.agg (rvA c who seq x.held x.stale), .agg (tpA (.slice A m cp) t), .int .i64 p] w fun e w' => e = .returned (rdV c who seq (.slice A m cp) (cellR c L seq x t p)) ∧ Kept (fun _ => False) w w' := by
  have HS := Lib.hid hs
  have HL := Lib.hid hL
  have HM := Lib.hid hm
  have HBd := Lib.hid hb
  have HV0 : Hid (Blk ((((w.alloc (.cells (rvA c who seq x.held x.stale) 34)).alloc (.cells (tpA (.slice A m cp) t) 47)).alloc (.cells rv0 34)).alloc (.cells tp0 47)) w.heap.size 34 (rvA c who seq x.held x.stale)) := Lib.hid ((((Blk.new _ _ _).alloc _).alloc _).alloc _)
  have HT0 : Hid (Blk ((((w.alloc (.cells (rvA c who seq x.held x.stale) 34)).alloc (.cells (tpA (.slice A m cp) t) 47)).alloc (.cells rv0 34)).alloc (.cells tp0 47)) (w.heap.size + 1) 47 (tpA (.slice A m cp) t)) := Lib.hid (((Blk.new' _ _ _ _ (by simp)).alloc _).alloc _)
  have HX0 : Hid (Blk ((((w.alloc (.cells (rvA c who seq x.held x.stale) 34)).alloc (.cells (tpA (.slice A m cp) t) 47)).alloc (.cells rv0 34)).alloc (.cells tp0 47)) (w.heap.size + 1 + 1) 34 rv0) := Lib.hid ((Blk.new' _ _ _ _ (by simp)).alloc _)
  have HZ0 : Hid (Blk ((((w.alloc (.cells (rvA c who seq x.held x.stale) 34)).alloc (.cells (tpA (.slice A m cp) t) 47)).alloc (.cells rv0 34)).alloc (.cells tp0 47)) (w.heap.size + 1 + 1 + 1) 47 tp0) := Lib.hid (Blk.new' _ _ _ _ (by simp))
  have HK0 : Hid (Kept (fun _ => False) w ((((w.alloc (.cells (rvA c who seq x.held x.stale) 34)).alloc (.cells (tpA (.slice A m cp) t) 47)).alloc (.cells rv0 34)).alloc (.cells tp0 47))) := Lib.hid (((((Kept.refl _ _).alloc _).alloc _).alloc _).alloc _)
  have n0 : (rvA c who seq x.held x.stale)[9]? = some (.bool x.stale) := rfl
  have hc0 := loadCfg_view HV0.out
  have hh : p < c.ans ∨ c.word ≤ p := Or.inr h3
  have HE : Hid (cellR c L seq x t p = (x, t, 0, 3)) := Lib.hid (by unfold cellR; rw [if_neg (by simp [h]), if_pos hh])
  clear hh
  replace n0 : (rvA c who seq x.held x.stale)[9]? = some (.bool false) := by rw [n0, h]
  unfold tp0 rv0 at hc0
  clear hs hL hm hb h
  go_enter Try.func60, Try.ntmps60
  go_wp2_with (first
    | (go_at_call 87; ((with_reducible refine (from7A c HBd.out _).mono ?_); rintro e w1 ⟨rfl, hk1⟩; (
      have HV1 := Lib.hid (hk1.blk HV0.out (fun h => h)); have HT1 := Lib.hid (hk1.blk HT0.out (fun h => h)); have HX1 := Lib.hid (hk1.blk HX0.out (fun h => h)); have HZ1 := Lib.hid (hk1.blk HZ0.out (fun h => h)); have HK1 := Lib.hid (HK0.out.trans hk1); have hc1 := loadCfg_view HV1.out; clear hk1 hc0)))
    | (go_at_call 87; ((with_reducible refine (from16A c HBd.out _).mono ?_); rintro e w2 ⟨rfl, hk2⟩; (
      have HV2 := Lib.hid (hk2.blk HV1.out (fun h => h)); have HT2 := Lib.hid (hk2.blk HT1.out (fun h => h)); have HX2 := Lib.hid (hk2.blk HX1.out (fun h => h)); have HZ2 := Lib.hid (hk2.blk HZ1.out (fun h => h)); have HK2 := Lib.hid (HK1.out.trans hk2); clear hk2 hc1))))
  obtain ⟨w5, hst5, hB5, hK5⟩ := stV_blk (ty := 34) (cells := (rvA c who seq x.held x.stale)) HX2.out.drew (by kernel_rfl) rfl (rvA_one _ _ _ _ _)
  have HV5 := hK5.blk HV2.out.drew (by omega)
  have HT5 := hK5.blk HT2.out.drew (by omega)
  obtain ⟨w6, hst6, hB6, hK6⟩ := stV_blk (ty := 47) (cells := tpA (.slice A m cp) t) (hK5.blk HZ2.out.drew (by omega)) (by kernel_rfl) rfl (tpA_one _ _ rfl)
  have HV6 := hK6.blk HV5 (by omega)
  have HT6 := hK6.blk HT5 (by omega)
  have HB5 := Lib.hid (hK6.blk hB5 (by omega))
  have HB6 := Lib.hid hB6
  have HK6 := Lib.hid (Kept.fresh9 (Kept.fresh9 HK2.out.drew hK5 (by omega)) hK6 (by omega))
  have S4 := Lib.hid (And.intro (ldRv_blk HV2.out.drew rfl) (ldTape_blk HT2.out.drew rfl))
  have S5 := Lib.hid (And.intro (ldRv_blk HV5 rfl) (ldTape_blk HT5 rfl))
  have S6 := Lib.hid (And.intro (ldRv_blk HV6 rfl) (ldTape_blk HT6 rfl))
  skip
  clear hB5 hK5 HV5 HT5 hB6 hK6 HV6 HT6
  go_region_held3 (fun w' => (ldRv ⟨w.heap.size, 0, none⟩).run Try.prog w' = .ok (.agg (rvA c who seq x.held x.stale)) w' ∧ (ldTape ⟨w.heap.size + 1, 0, none⟩).run Try.prog w' = .ok (.agg (tpA (.slice A m cp) t)) w')
        (first | exact S6.out | exact S5.out | exact S4.out) (fail)
  go_wp2_with fail
  exact bodyPost_ret (v := rdV c who seq (.slice A m cp) (x, t, 0, 3)) (results_cctt (r := 8) (r2 := 9) _ _ (w.heap.size + 1 + 1) 34 (rvA c who seq x.held x.stale) (0, 0) _ rfl HB5.out Try.underlying34 rfl (by kernel_rfl) (w.heap.size + 1 + 1 + 1) 47 (tpA (.slice A m cp) t) (0, 0) _ rfl HB6.out Try.underlying47 rfl (by kernel_rfl) rfl) rfl ⟨by rw [HE.out], HK6.out⟩
set_option maxRecDepth 100000 in
set_option maxHeartbeats 2000000 in
theorem rCell_load {w : World} {A : Option Addr} {m cp : Nat} {L : List OutD} (hL : L.length = m) (hm : m ≤ maxLen) (hs : SlAt w A 3 (L.map OutD.cells)) (c : CfgD) (hb : c.Bd) (who seq : Int) (x : XvD) (t : TpD) (p : Int)
    (h : x.stale = false) (h2 : ¬ p < c.ans) (h3 : ¬ c.word ≤ p) :
    Calls Try.prog 60 #[.agg (rvA c who seq x.held x.stale), .agg (tpA (.slice A m cp) t), .int .i64 p] w fun e w' => e = .returned (rdV c who seq (.slice A m cp) (cellR c L seq x t p)) ∧ Kept (fun _ => False) w w' := by
  have HS := Lib.hid hs
  have HL := Lib.hid hL
  have HM := Lib.hid hm
  have HBd := Lib.hid hb
  have HV0 : Hid (Blk ((((w.alloc (.cells (rvA c who seq x.held x.stale) 34)).alloc (.cells (tpA (.slice A m cp) t) 47)).alloc (.cells rv0 34)).alloc (.cells tp0 47)) w.heap.size 34 (rvA c who seq x.held x.stale)) := Lib.hid ((((Blk.new _ _ _).alloc _).alloc _).alloc _)
  have HT0 : Hid (Blk ((((w.alloc (.cells (rvA c who seq x.held x.stale) 34)).alloc (.cells (tpA (.slice A m cp) t) 47)).alloc (.cells rv0 34)).alloc (.cells tp0 47)) (w.heap.size + 1) 47 (tpA (.slice A m cp) t)) := Lib.hid (((Blk.new' _ _ _ _ (by simp)).alloc _).alloc _)
  have HX0 : Hid (Blk ((((w.alloc (.cells (rvA c who seq x.held x.stale) 34)).alloc (.cells (tpA (.slice A m cp) t) 47)).alloc (.cells rv0 34)).alloc (.cells tp0 47)) (w.heap.size + 1 + 1) 34 rv0) := Lib.hid ((Blk.new' _ _ _ _ (by simp)).alloc _)
  have HZ0 : Hid (Blk ((((w.alloc (.cells (rvA c who seq x.held x.stale) 34)).alloc (.cells (tpA (.slice A m cp) t) 47)).alloc (.cells rv0 34)).alloc (.cells tp0 47)) (w.heap.size + 1 + 1 + 1) 47 tp0) := Lib.hid (Blk.new' _ _ _ _ (by simp))
  have HK0 : Hid (Kept (fun _ => False) w ((((w.alloc (.cells (rvA c who seq x.held x.stale) 34)).alloc (.cells (tpA (.slice A m cp) t) 47)).alloc (.cells rv0 34)).alloc (.cells tp0 47))) := Lib.hid (((((Kept.refl _ _).alloc _).alloc _).alloc _).alloc _)
  have n0 : (rvA c who seq x.held x.stale)[9]? = some (.bool x.stale) := rfl
  have hc0 := loadCfg_view HV0.out
  have hh : ¬ (p < c.ans ∨ c.word ≤ p) := not_or.2 ⟨h2, h3⟩
  have HE : Hid (cellR c L seq x t p = loadR L seq x t p) := Lib.hid (by unfold cellR; rw [if_neg (by simp [h]), if_neg hh])
  clear hh
  replace n0 : (rvA c who seq x.held x.stale)[9]? = some (.bool false) := by rw [n0, h]
  unfold tp0 rv0 at hc0
  clear hs hL hm hb h
  have HR : Hid (∃ r, r = loadR L seq x t p) := Lib.hid ⟨_, rfl⟩
  go_enter Try.func60, Try.ntmps60
  go_wp2_with (first
    | (go_at_call 87; ((with_reducible refine (from7A c HBd.out _).mono ?_); rintro e w1 ⟨rfl, hk1⟩; (
      have HV1 := Lib.hid (hk1.blk HV0.out (fun h => h)); have HT1 := Lib.hid (hk1.blk HT0.out (fun h => h)); have HX1 := Lib.hid (hk1.blk HX0.out (fun h => h)); have HZ1 := Lib.hid (hk1.blk HZ0.out (fun h => h)); have HK1 := Lib.hid (HK0.out.trans hk1); have hc1 := loadCfg_view HV1.out; clear hk1 hc0)))
    | (go_at_call 87; ((with_reducible refine (from16A c HBd.out _).mono ?_); rintro e w2 ⟨rfl, hk2⟩; (
      have HV2 := Lib.hid (hk2.blk HV1.out (fun h => h)); have HT2 := Lib.hid (hk2.blk HT1.out (fun h => h)); have HX2 := Lib.hid (hk2.blk HX1.out (fun h => h)); have HZ2 := Lib.hid (hk2.blk HZ1.out (fun h => h)); have HK2 := Lib.hid (HK1.out.trans hk2); have hv2 := ldRv_blk HV2.out rfl; have ht2 := ldTape_blk HT2.out rfl; clear hk2 hc1)))
    | (go_at_call 88; ((with_reducible refine (rloadA HL.out HM.out (HS.out.kept HK2.out) c who seq x t p).mono ?_); rintro e w3 ⟨rfl, hk3⟩; (
      obtain ⟨r, hr⟩ := HR.out
      rw [← hr]
      have HR' := Lib.hid hr
      clear hr
      have HX3 := hk3.blk HX2.out (fun h => h)
      have HZ3 := hk3.blk HZ2.out (fun h => h)
      have HK3 := HK2.out.trans hk3
      obtain ⟨w5, hst5, hB5, hK5⟩ := stV_blk (ty := 34) (cells := rvA c who seq r.1.held r.1.stale) HX3 (by kernel_rfl) rfl (rvA_one _ _ _ _ _)
      obtain ⟨w6, hst6, hB6, hK6⟩ := stV_blk (ty := 47) (cells := tpA (.slice A m cp) r.2.1) (hK5.blk HZ3 (by omega)) (by kernel_rfl) rfl (tpA_one _ _ rfl)
      have HB5 := Lib.hid (hK6.blk hB5 (by omega))
      have HB6 := Lib.hid hB6
      have HK6 := Lib.hid (Kept.fresh9 (Kept.fresh9 HK3 hK5 (by omega)) hK6 (by omega))
      clear hk3 hv2 ht2 HX3 HZ3 HK3 hB5 hK5 hB6 hK6))))
  exact bodyPost_ret (v := rdV c who seq (.slice A m cp) r) (results_cctt (r := 8) (r2 := 9) _ _ (w.heap.size + 1 + 1) 34 (rvA c who seq r.1.held r.1.stale) (0, 0) _ rfl HB5.out Try.underlying34 rfl (by kernel_rfl) (w.heap.size + 1 + 1 + 1) 47 (tpA (.slice A m cp) r.2.1) (0, 0) _ rfl HB6.out Try.underlying47 rfl (by kernel_rfl) rfl) rfl ⟨by rw [HE.out, HR'.out], HK6.out⟩
theorem rCell_calls {w : World} {A : Option Addr} {m cp : Nat} {L : List OutD} (hL : L.length = m) (hm : m ≤ maxLen) (hs : SlAt w A 3 (L.map OutD.cells)) (c : CfgD) (hb : c.Bd) (who seq : Int) (x : XvD) (t : TpD) (p : Int) :
    Calls Try.prog 60 #[.agg (rvA c who seq x.held x.stale), .agg (tpA (.slice A m cp) t), .int .i64 p] w fun e w' => e = .returned (rdV c who seq (.slice A m cp) (cellR c L seq x t p)) ∧ Kept (fun _ => False) w w' := by
  by_cases h : x.stale = true
  · exact rCell_stale hL hm hs c hb who seq x t p h
  · have h' : x.stale = false := by simpa using h
    by_cases h2 : p < c.ans
    · exact rCell_low hL hm hs c hb who seq x t p h' h2
    · by_cases h3 : c.word ≤ p
      · exact rCell_high hL hm hs c hb who seq x t p h' h2 h3
      · exact rCell_load hL hm hs c hb who seq x t p h' h2 h3
end Go.Proofs.Ythjkodjpopcjaaa
