/- The document's view: Word. -/
import Derived.Test.YthjkodjpopcjaaaVwSl
namespace Go.Proofs.Ythjkodjpopcjaaa
open Go.RowKit

def wordR (c : CfgD) (L : List OutD) (who seq : Int) (x : XvD) (t : TpD) (b k : Int) : RdR :=
  if x.stale then (x, t, 0, 2) else if c.at_ 16 b k < 0 then (x, t, 0, 3) else
    if (liveR c L who seq x t b).2.2 = 1 then loadR L seq (liveR c L who seq x t b).1 (liveR c L who seq x t b).2.1 (c.at_ 16 b k)
    else ((liveR c L who seq x t b).1, (liveR c L who seq x t b).2.1, 0, (liveR c L who seq x t b).2.2)
theorem rLiveA {w : World} {A : Option Addr} {m cp : Nat} {L : List OutD} (hL : L.length = m) (hm : m ≤ maxLen) (hs : SlAt w A 3 (L.map OutD.cells)) (c : CfgD) (hb : c.Bd) (who seq : Int) (x : XvD) (t : TpD) (b : Int) :
    Calls Try.prog 62 #[.agg (rvA c who seq x.held x.stale), .agg (tpA (.slice A m cp) t), .int .i64 b] w fun e w' => e = .returned (.tuple #[.agg (rvA c who seq (liveR c L who seq x t b).1.held (liveR c L who seq x t b).1.stale), .agg (tpA (.slice A m cp) (liveR c L who seq x t b).2.1), .int .i64 (liveR c L who seq x t b).2.2]) ∧ Kept (fun _ => False) w w' := rLive_calls hL hm hs c hb who seq x t b
attribute [local go_sem ↓] ldTape_eq stTape_eq ldRv_eq stRv_eq loadCfg_eq
set_option maxRecDepth 100000 in
set_option maxHeartbeats 2000000 in
theorem rWord_stale {w : World} {A : Option Addr} {m cp : Nat} {L : List OutD} (hL : L.length = m) (hm : m ≤ maxLen) (hs : SlAt w A 3 (L.map OutD.cells)) (c : CfgD) (hb : c.Bd) (who seq : Int) (x : XvD) (t : TpD) (b k : Int)
    (h : x.stale = true) :
    Calls Try.prog 61 #[.agg (rvA c who seq x.held x.stale), .agg (tpA (.slice A m cp) t), .int .i64 b, .int .i64 k] w fun e w' => e = .returned (rdV c who seq (.slice A m cp) (wordR c L who seq x t b k)) ∧ Kept (fun _ => False) w w' := by
  have HS := Lib.hid hs
  have HL := Lib.hid hL
  have HM := Lib.hid hm
  have HBd := Lib.hid hb
  have HV0 : Hid (Blk ((((w.alloc (.cells (rvA c who seq x.held x.stale) 34)).alloc (.cells (tpA (.slice A m cp) t) 47)).alloc (.cells rv0 34)).alloc (.cells tp0 47)) w.heap.size 34 (rvA c who seq x.held x.stale)) := Lib.hid ((((Blk.new _ _ _).alloc _).alloc _).alloc _)
  have HT0 : Hid (Blk ((((w.alloc (.cells (rvA c who seq x.held x.stale) 34)).alloc (.cells (tpA (.slice A m cp) t) 47)).alloc (.cells rv0 34)).alloc (.cells tp0 47)) (w.heap.size + 1) 47 (tpA (.slice A m cp) t)) := Lib.hid (((Blk.new' _ _ _ _ (by simp)).alloc _).alloc _)
  have HX0 : Hid (Blk ((((w.alloc (.cells (rvA c who seq x.held x.stale) 34)).alloc (.cells (tpA (.slice A m cp) t) 47)).alloc (.cells rv0 34)).alloc (.cells tp0 47)) (w.heap.size + 1 + 1) 34 rv0) := Lib.hid ((Blk.new' _ _ _ _ (by simp)).alloc _)
  have HZ0 : Hid (Blk ((((w.alloc (.cells (rvA c who seq x.held x.stale) 34)).alloc (.cells (tpA (.slice A m cp) t) 47)).alloc (.cells rv0 34)).alloc (.cells tp0 47)) (w.heap.size + 1 + 1 + 1) 47 tp0) := Lib.hid (Blk.new' _ _ _ _ (by simp))
  have HK0 : Hid (Kept (fun _ => False) w ((((w.alloc (.cells (rvA c who seq x.held x.stale) 34)).alloc (.cells (tpA (.slice A m cp) t) 47)).alloc (.cells rv0 34)).alloc (.cells tp0 47))) := Lib.hid (((((Kept.refl _ _).alloc _).alloc _).alloc _).alloc _)
  have n0 : (rvA c who seq x.held x.stale)[9]? = some (.bool x.stale) := rfl
  have hc0 := loadCfg_view HV0.out
  have HE : Hid (wordR c L who seq x t b k = (x, t, 0, 2)) := Lib.hid (by unfold wordR; rw [if_pos h])
  replace n0 : (rvA c who seq x.held x.stale)[9]? = some (.bool true) := by rw [n0, h]
  unfold tp0 rv0 at hc0
  clear hs hL hm hb h
  obtain ⟨w5, hst5, hB5, hK5⟩ := stV_blk (ty := 34) (cells := (rvA c who seq x.held x.stale)) HX0.out.drew (by kernel_rfl) rfl (rvA_one _ _ _ _ _)
  have HV5 := hK5.blk HV0.out.drew (by omega)
  have HT5 := hK5.blk HT0.out.drew (by omega)
  obtain ⟨w6, hst6, hB6, hK6⟩ := stV_blk (ty := 47) (cells := tpA (.slice A m cp) t) (hK5.blk HZ0.out.drew (by omega)) (by kernel_rfl) rfl (tpA_one _ _ rfl)
  have HV6 := hK6.blk HV5 (by omega)
  have HT6 := hK6.blk HT5 (by omega)
  have HB5 := Lib.hid (hK6.blk hB5 (by omega))
  have HB6 := Lib.hid hB6
  have HK6 := Lib.hid (Kept.fresh9 (Kept.fresh9 HK0.out.drew hK5 (by omega)) hK6 (by omega))
  have S4 := Lib.hid (And.intro (ldRv_blk HV0.out.drew rfl) (ldTape_blk HT0.out.drew rfl))
  have S5 := Lib.hid (And.intro (ldRv_blk HV5 rfl) (ldTape_blk HT5 rfl))
  have S6 := Lib.hid (And.intro (ldRv_blk HV6 rfl) (ldTape_blk HT6 rfl))
  unfold tp0 rv0 at hst5
  clear hB5 hK5 HV5 HT5 hB6 hK6 HV6 HT6
  go_enter Try.func61, Try.ntmps61
  go_wp2_with fail
  go_region_held3 (fun w' => (ldRv ⟨w.heap.size, 0, none⟩).run Try.prog w' = .ok (.agg (rvA c who seq x.held x.stale)) w' ∧ (ldTape ⟨w.heap.size + 1, 0, none⟩).run Try.prog w' = .ok (.agg (tpA (.slice A m cp) t)) w')
        (first | exact S6.out | exact S5.out | exact S4.out) (fail)
  go_wp2_with fail
  exact bodyPost_ret (v := rdV c who seq (.slice A m cp) (x, t, 0, 2)) (results_cctt (r := 10) (r2 := 11) _ _ (w.heap.size + 1 + 1) 34 (rvA c who seq x.held x.stale) (0, 0) _ rfl HB5.out Try.underlying34 rfl (by kernel_rfl) (w.heap.size + 1 + 1 + 1) 47 (tpA (.slice A m cp) t) (0, 0) _ rfl HB6.out Try.underlying47 rfl (by kernel_rfl) rfl) rfl ⟨by rw [HE.out], HK6.out⟩
set_option maxRecDepth 100000 in
set_option maxHeartbeats 2000000 in
theorem rWord_none {w : World} {A : Option Addr} {m cp : Nat} {L : List OutD} (hL : L.length = m) (hm : m ≤ maxLen) (hs : SlAt w A 3 (L.map OutD.cells)) (c : CfgD) (hb : c.Bd) (who seq : Int) (x : XvD) (t : TpD) (b k : Int)
    (h : x.stale = false) (h2 : c.at_ 16 b k < 0) :
    Calls Try.prog 61 #[.agg (rvA c who seq x.held x.stale), .agg (tpA (.slice A m cp) t), .int .i64 b, .int .i64 k] w fun e w' => e = .returned (rdV c who seq (.slice A m cp) (wordR c L who seq x t b k)) ∧ Kept (fun _ => False) w w' := by
  have HS := Lib.hid hs
  have HL := Lib.hid hL
  have HM := Lib.hid hm
  have HBd := Lib.hid hb
  have HV0 : Hid (Blk ((((w.alloc (.cells (rvA c who seq x.held x.stale) 34)).alloc (.cells (tpA (.slice A m cp) t) 47)).alloc (.cells rv0 34)).alloc (.cells tp0 47)) w.heap.size 34 (rvA c who seq x.held x.stale)) := Lib.hid ((((Blk.new _ _ _).alloc _).alloc _).alloc _)
  have HT0 : Hid (Blk ((((w.alloc (.cells (rvA c who seq x.held x.stale) 34)).alloc (.cells (tpA (.slice A m cp) t) 47)).alloc (.cells rv0 34)).alloc (.cells tp0 47)) (w.heap.size + 1) 47 (tpA (.slice A m cp) t)) := Lib.hid (((Blk.new' _ _ _ _ (by simp)).alloc _).alloc _)
  have HX0 : Hid (Blk ((((w.alloc (.cells (rvA c who seq x.held x.stale) 34)).alloc (.cells (tpA (.slice A m cp) t) 47)).alloc (.cells rv0 34)).alloc (.cells tp0 47)) (w.heap.size + 1 + 1) 34 rv0) := Lib.hid ((Blk.new' _ _ _ _ (by simp)).alloc _)
  have HZ0 : Hid (Blk ((((w.alloc (.cells (rvA c who seq x.held x.stale) 34)).alloc (.cells (tpA (.slice A m cp) t) 47)).alloc (.cells rv0 34)).alloc (.cells tp0 47)) (w.heap.size + 1 + 1 + 1) 47 tp0) := Lib.hid (Blk.new' _ _ _ _ (by simp))
  have HK0 : Hid (Kept (fun _ => False) w ((((w.alloc (.cells (rvA c who seq x.held x.stale) 34)).alloc (.cells (tpA (.slice A m cp) t) 47)).alloc (.cells rv0 34)).alloc (.cells tp0 47))) := Lib.hid (((((Kept.refl _ _).alloc _).alloc _).alloc _).alloc _)
  have n0 : (rvA c who seq x.held x.stale)[9]? = some (.bool x.stale) := rfl
  have hc0 := loadCfg_view HV0.out
  have HE : Hid (wordR c L who seq x t b k = (x, t, 0, 3)) := Lib.hid (by unfold wordR; rw [if_neg (by simp [h]), if_pos h2])
  replace n0 : (rvA c who seq x.held x.stale)[9]? = some (.bool false) := by rw [n0, h]
  unfold tp0 rv0 at hc0
  clear hs hL hm hb h
  go_enter Try.func61, Try.ntmps61
  go_wp2_with (go_at_call 59; ((with_reducible refine (rAtA c HBd.out 16 _ _ _).mono ?_); rintro e w1 ⟨rfl, hk1⟩; (
      have HV1 := Lib.hid (hk1.blk HV0.out (fun h => h)); have HT1 := Lib.hid (hk1.blk HT0.out (fun h => h)); have HX1 := Lib.hid (hk1.blk HX0.out (fun h => h)); have HZ1 := Lib.hid (hk1.blk HZ0.out (fun h => h)); have HK1 := Lib.hid (HK0.out.trans hk1); have hl1 := ldTape_blk HT1.out rfl; have hv1 := ldRv_blk HV1.out rfl; clear hk1 hc0)))
  clear hl1 hv1
  obtain ⟨w5, hst5, hB5, hK5⟩ := stV_blk (ty := 34) (cells := (rvA c who seq x.held x.stale)) HX1.out.drew (by kernel_rfl) rfl (rvA_one _ _ _ _ _)
  have HV5 := hK5.blk HV1.out.drew (by omega)
  have HT5 := hK5.blk HT1.out.drew (by omega)
  obtain ⟨w6, hst6, hB6, hK6⟩ := stV_blk (ty := 47) (cells := tpA (.slice A m cp) t) (hK5.blk HZ1.out.drew (by omega)) (by kernel_rfl) rfl (tpA_one _ _ rfl)
  have HV6 := hK6.blk HV5 (by omega)
  have HT6 := hK6.blk HT5 (by omega)
  have HB5 := Lib.hid (hK6.blk hB5 (by omega))
  have HB6 := Lib.hid hB6
  have HK6 := Lib.hid (Kept.fresh9 (Kept.fresh9 HK1.out.drew hK5 (by omega)) hK6 (by omega))
  have S4 := Lib.hid (And.intro (ldRv_blk HV1.out.drew rfl) (ldTape_blk HT1.out.drew rfl))
  have S5 := Lib.hid (And.intro (ldRv_blk HV5 rfl) (ldTape_blk HT5 rfl))
  have S6 := Lib.hid (And.intro (ldRv_blk HV6 rfl) (ldTape_blk HT6 rfl))
  clear hB5 hK5 HV5 HT5 hB6 hK6 HV6 HT6
  go_region_held3 (fun w' => (ldRv ⟨w.heap.size, 0, none⟩).run Try.prog w' = .ok (.agg (rvA c who seq x.held x.stale)) w' ∧ (ldTape ⟨w.heap.size + 1, 0, none⟩).run Try.prog w' = .ok (.agg (tpA (.slice A m cp) t)) w')
        (first | exact S6.out | exact S5.out | exact S4.out) (fail)
  go_wp2_with fail
  exact bodyPost_ret (v := rdV c who seq (.slice A m cp) (x, t, 0, 3)) (results_cctt (r := 10) (r2 := 11) _ _ (w.heap.size + 1 + 1) 34 (rvA c who seq x.held x.stale) (0, 0) _ rfl HB5.out Try.underlying34 rfl (by kernel_rfl) (w.heap.size + 1 + 1 + 1) 47 (tpA (.slice A m cp) t) (0, 0) _ rfl HB6.out Try.underlying47 rfl (by kernel_rfl) rfl) rfl ⟨by rw [HE.out], HK6.out⟩
set_option maxRecDepth 100000 in
set_option maxHeartbeats 2000000 in
theorem rWord_dead {w : World} {A : Option Addr} {m cp : Nat} {L : List OutD} (hL : L.length = m) (hm : m ≤ maxLen) (hs : SlAt w A 3 (L.map OutD.cells)) (c : CfgD) (hb : c.Bd) (who seq : Int) (x : XvD) (t : TpD) (b k : Int)
    (h : x.stale = false) (h2 : ¬ c.at_ 16 b k < 0) (h3 : ¬ (liveR c L who seq x t b).2.2 = 1) :
    Calls Try.prog 61 #[.agg (rvA c who seq x.held x.stale), .agg (tpA (.slice A m cp) t), .int .i64 b, .int .i64 k] w fun e w' => e = .returned (rdV c who seq (.slice A m cp) (wordR c L who seq x t b k)) ∧ Kept (fun _ => False) w w' := by
  have HS := Lib.hid hs
  have HL := Lib.hid hL
  have HM := Lib.hid hm
  have HBd := Lib.hid hb
  have HV0 : Hid (Blk ((((w.alloc (.cells (rvA c who seq x.held x.stale) 34)).alloc (.cells (tpA (.slice A m cp) t) 47)).alloc (.cells rv0 34)).alloc (.cells tp0 47)) w.heap.size 34 (rvA c who seq x.held x.stale)) := Lib.hid ((((Blk.new _ _ _).alloc _).alloc _).alloc _)
  have HT0 : Hid (Blk ((((w.alloc (.cells (rvA c who seq x.held x.stale) 34)).alloc (.cells (tpA (.slice A m cp) t) 47)).alloc (.cells rv0 34)).alloc (.cells tp0 47)) (w.heap.size + 1) 47 (tpA (.slice A m cp) t)) := Lib.hid (((Blk.new' _ _ _ _ (by simp)).alloc _).alloc _)
  have HX0 : Hid (Blk ((((w.alloc (.cells (rvA c who seq x.held x.stale) 34)).alloc (.cells (tpA (.slice A m cp) t) 47)).alloc (.cells rv0 34)).alloc (.cells tp0 47)) (w.heap.size + 1 + 1) 34 rv0) := Lib.hid ((Blk.new' _ _ _ _ (by simp)).alloc _)
  have HZ0 : Hid (Blk ((((w.alloc (.cells (rvA c who seq x.held x.stale) 34)).alloc (.cells (tpA (.slice A m cp) t) 47)).alloc (.cells rv0 34)).alloc (.cells tp0 47)) (w.heap.size + 1 + 1 + 1) 47 tp0) := Lib.hid (Blk.new' _ _ _ _ (by simp))
  have HK0 : Hid (Kept (fun _ => False) w ((((w.alloc (.cells (rvA c who seq x.held x.stale) 34)).alloc (.cells (tpA (.slice A m cp) t) 47)).alloc (.cells rv0 34)).alloc (.cells tp0 47))) := Lib.hid (((((Kept.refl _ _).alloc _).alloc _).alloc _).alloc _)
  have n0 : (rvA c who seq x.held x.stale)[9]? = some (.bool x.stale) := rfl
  have hc0 := loadCfg_view HV0.out
  have HE : Hid (wordR c L who seq x t b k = if (liveR c L who seq x t b).2.2 = 1 then loadR L seq (liveR c L who seq x t b).1 (liveR c L who seq x t b).2.1 (c.at_ 16 b k) else ((liveR c L who seq x t b).1, (liveR c L who seq x t b).2.1, 0, (liveR c L who seq x t b).2.2)) := Lib.hid (by unfold wordR; rw [if_neg (by simp [h]), if_neg h2])
  replace n0 : (rvA c who seq x.held x.stale)[9]? = some (.bool false) := by rw [n0, h]
  have HR : Hid (∃ r, r = liveR c L who seq x t b ∧ ¬ r.2.2 = 1) := Lib.hid ⟨_, rfl, h3⟩
  clear h3
  unfold tp0 rv0 at hc0
  clear hs hL hm hb h
  go_enter Try.func61, Try.ntmps61
  go_wp2_with (first
    | (go_at_call 59; ((with_reducible refine (rAtA c HBd.out 16 _ _ _).mono ?_); rintro e w1 ⟨rfl, hk1⟩; (
      have HV1 := Lib.hid (hk1.blk HV0.out (fun h => h)); have HT1 := Lib.hid (hk1.blk HT0.out (fun h => h)); have HX1 := Lib.hid (hk1.blk HX0.out (fun h => h)); have HZ1 := Lib.hid (hk1.blk HZ0.out (fun h => h)); have HK1 := Lib.hid (HK0.out.trans hk1); have hl1 := ldTape_blk HT1.out rfl; have hv1 := ldRv_blk HV1.out rfl; clear hk1 hc0)))
    | (go_at_call 62; ((with_reducible refine (rLiveA HL.out HM.out (HS.out.kept HK1.out) c HBd.out who seq x t b).mono ?_); rintro e w2 ⟨rfl, hk2⟩; (
      obtain ⟨r, hr, hs1⟩ := HR.out
      rw [← hr]
      have hE := HE.out
      rw [← hr] at hE
      rw [if_neg hs1] at hE
      have HE := Lib.hid hE
      clear hr hE
      have HX2 := hk2.blk HX1.out (fun h => h)
      have HZ2 := hk2.blk HZ1.out (fun h => h)
      obtain ⟨w3, hst3, hB3, hK3⟩ := stV_blk (ty := 34) (cells := rvA c who seq r.1.held r.1.stale) (hk2.blk HV1.out (fun h => h)) (by kernel_rfl) rfl (rvA_one _ _ _ _ _)
      obtain ⟨w4, hst4, hB4, hK4⟩ := stV_blk (ty := 47) (cells := tpA (.slice A m cp) r.2.1) (hK3.blk (hk2.blk HT1.out (fun h => h)) (by omega)) (by kernel_rfl) rfl (tpA_one _ _ rfl)
      have HV4 := Lib.hid (hK4.blk hB3 (by omega)); have HT4 := Lib.hid hB4; have HX4 := Lib.hid (hK4.blk (hK3.blk HX2 (by omega)) (by omega)); have HZ4 := Lib.hid (hK4.blk (hK3.blk HZ2 (by omega)) (by omega))
      have HK4 := Lib.hid (Kept.fresh9 (Kept.fresh9 (HK1.out.trans hk2) hK3 (by omega)) hK4 (by omega))
      have hl4 := ldTape_blk HT4.out rfl
      have hv4 := ldRv_blk HV4.out rfl
      have s1 : (r.2.2 == 1) = false := by simpa using hs1
      have s2 : (r.2.2 != 1) = true := by simpa using hs1
      clear hs1
      clear hk2 HX2 HZ2 hB3 hK3 hB4 hK4 hl1 hv1))))
  clear hl4 hv4 s1 s2
  obtain ⟨w5, hst5, hB5, hK5⟩ := stV_blk (ty := 34) (cells := (rvA c who seq r.1.held r.1.stale)) HX4.out.drew (by kernel_rfl) rfl (rvA_one _ _ _ _ _)
  have HV5 := hK5.blk HV4.out.drew (by omega)
  have HT5 := hK5.blk HT4.out.drew (by omega)
  obtain ⟨w6, hst6, hB6, hK6⟩ := stV_blk (ty := 47) (cells := tpA (.slice A m cp) r.2.1) (hK5.blk HZ4.out.drew (by omega)) (by kernel_rfl) rfl (tpA_one _ _ rfl)
  have HV6 := hK6.blk HV5 (by omega)
  have HT6 := hK6.blk HT5 (by omega)
  have HB5 := Lib.hid (hK6.blk hB5 (by omega))
  have HB6 := Lib.hid hB6
  have HK6 := Lib.hid (Kept.fresh9 (Kept.fresh9 HK4.out.drew hK5 (by omega)) hK6 (by omega))
  have S4 := Lib.hid (And.intro (ldRv_blk HV4.out.drew rfl) (ldTape_blk HT4.out.drew rfl))
  have S5 := Lib.hid (And.intro (ldRv_blk HV5 rfl) (ldTape_blk HT5 rfl))
  have S6 := Lib.hid (And.intro (ldRv_blk HV6 rfl) (ldTape_blk HT6 rfl))
  clear hB5 hK5 HV5 HT5 hB6 hK6 HV6 HT6
  go_region_held3 (fun w' => (ldRv ⟨w.heap.size, 0, none⟩).run Try.prog w' = .ok (.agg (rvA c who seq r.1.held r.1.stale)) w' ∧ (ldTape ⟨w.heap.size + 1, 0, none⟩).run Try.prog w' = .ok (.agg (tpA (.slice A m cp) r.2.1)) w')
        (first | exact S6.out | exact S5.out | exact S4.out) (fail)
  go_wp2_with fail
  exact bodyPost_ret (v := rdV c who seq (.slice A m cp) (r.1, r.2.1, 0, r.2.2)) (results_cctt (r := 10) (r2 := 11) _ _ (w.heap.size + 1 + 1) 34 (rvA c who seq r.1.held r.1.stale) (0, 0) _ rfl HB5.out Try.underlying34 rfl (by kernel_rfl) (w.heap.size + 1 + 1 + 1) 47 (tpA (.slice A m cp) r.2.1) (0, 0) _ rfl HB6.out Try.underlying47 rfl (by kernel_rfl) rfl) rfl ⟨by rw [HE.out], HK6.out⟩
set_option maxRecDepth 100000 in
set_option maxHeartbeats 2000000 in
theorem rWord_load {w : World} {A : Option Addr} {m cp : Nat} {L : List OutD} (hL : L.length = m) (hm : m ≤ maxLen) (hs : SlAt w A 3 (L.map OutD.cells)) (c : CfgD) (hb : c.Bd) (who seq : Int) (x : XvD) (t : TpD) (b k : Int)
    (h : x.stale = false) (h2 : ¬ c.at_ 16 b k < 0) (h3 : (liveR c L who seq x t b).2.2 = 1) :
    Calls Try.prog 61 #[.agg (rvA c who seq x.held x.stale), .agg (tpA (.slice A m cp) t), .int .i64 b, .int .i64 k] w fun e w' => e = .returned (rdV c who seq (.slice A m cp) (wordR c L who seq x t b k)) ∧ Kept (fun _ => False) w w' := by
  have HS := Lib.hid hs
  have HL := Lib.hid hL
  have HM := Lib.hid hm
  have HBd := Lib.hid hb
  have HV0 : Hid (Blk ((((w.alloc (.cells (rvA c who seq x.held x.stale) 34)).alloc (.cells (tpA (.slice A m cp) t) 47)).alloc (.cells rv0 34)).alloc (.cells tp0 47)) w.heap.size 34 (rvA c who seq x.held x.stale)) := Lib.hid ((((Blk.new _ _ _).alloc _).alloc _).alloc _)
  have HT0 : Hid (Blk ((((w.alloc (.cells (rvA c who seq x.held x.stale) 34)).alloc (.cells (tpA (.slice A m cp) t) 47)).alloc (.cells rv0 34)).alloc (.cells tp0 47)) (w.heap.size + 1) 47 (tpA (.slice A m cp) t)) := Lib.hid (((Blk.new' _ _ _ _ (by simp)).alloc _).alloc _)
  have HX0 : Hid (Blk ((((w.alloc (.cells (rvA c who seq x.held x.stale) 34)).alloc (.cells (tpA (.slice A m cp) t) 47)).alloc (.cells rv0 34)).alloc (.cells tp0 47)) (w.heap.size + 1 + 1) 34 rv0) := Lib.hid ((Blk.new' _ _ _ _ (by simp)).alloc _)
  have HZ0 : Hid (Blk ((((w.alloc (.cells (rvA c who seq x.held x.stale) 34)).alloc (.cells (tpA (.slice A m cp) t) 47)).alloc (.cells rv0 34)).alloc (.cells tp0 47)) (w.heap.size + 1 + 1 + 1) 47 tp0) := Lib.hid (Blk.new' _ _ _ _ (by simp))
  have HK0 : Hid (Kept (fun _ => False) w ((((w.alloc (.cells (rvA c who seq x.held x.stale) 34)).alloc (.cells (tpA (.slice A m cp) t) 47)).alloc (.cells rv0 34)).alloc (.cells tp0 47))) := Lib.hid (((((Kept.refl _ _).alloc _).alloc _).alloc _).alloc _)
  have n0 : (rvA c who seq x.held x.stale)[9]? = some (.bool x.stale) := rfl
  have hc0 := loadCfg_view HV0.out
  have HE : Hid (wordR c L who seq x t b k = if (liveR c L who seq x t b).2.2 = 1 then loadR L seq (liveR c L who seq x t b).1 (liveR c L who seq x t b).2.1 (c.at_ 16 b k) else ((liveR c L who seq x t b).1, (liveR c L who seq x t b).2.1, 0, (liveR c L who seq x t b).2.2)) := Lib.hid (by unfold wordR; rw [if_neg (by simp [h]), if_neg h2])
  replace n0 : (rvA c who seq x.held x.stale)[9]? = some (.bool false) := by rw [n0, h]
  have HR : Hid (∃ r, r = liveR c L who seq x t b ∧ r.2.2 = 1) := Lib.hid ⟨_, rfl, h3⟩
  clear h3
  unfold tp0 rv0 at hc0
  clear hs hL hm hb h
  go_enter Try.func61, Try.ntmps61
  go_wp2_with (first
    | (go_at_call 59; ((with_reducible refine (rAtA c HBd.out 16 _ _ _).mono ?_); rintro e w1 ⟨rfl, hk1⟩; (
      have HV1 := Lib.hid (hk1.blk HV0.out (fun h => h)); have HT1 := Lib.hid (hk1.blk HT0.out (fun h => h)); have HX1 := Lib.hid (hk1.blk HX0.out (fun h => h)); have HZ1 := Lib.hid (hk1.blk HZ0.out (fun h => h)); have HK1 := Lib.hid (HK0.out.trans hk1); have hl1 := ldTape_blk HT1.out rfl; have hv1 := ldRv_blk HV1.out rfl; clear hk1 hc0)))
    | (go_at_call 62; ((with_reducible refine (rLiveA HL.out HM.out (HS.out.kept HK1.out) c HBd.out who seq x t b).mono ?_); rintro e w2 ⟨rfl, hk2⟩; (
      obtain ⟨r, hr, hs1⟩ := HR.out
      rw [← hr]
      have hE := HE.out
      rw [← hr] at hE
      rw [if_pos hs1] at hE
      have HE := Lib.hid hE
      clear hr hE
      have HX2 := hk2.blk HX1.out (fun h => h)
      have HZ2 := hk2.blk HZ1.out (fun h => h)
      obtain ⟨w3, hst3, hB3, hK3⟩ := stV_blk (ty := 34) (cells := rvA c who seq r.1.held r.1.stale) (hk2.blk HV1.out (fun h => h)) (by kernel_rfl) rfl (rvA_one _ _ _ _ _)
      obtain ⟨w4, hst4, hB4, hK4⟩ := stV_blk (ty := 47) (cells := tpA (.slice A m cp) r.2.1) (hK3.blk (hk2.blk HT1.out (fun h => h)) (by omega)) (by kernel_rfl) rfl (tpA_one _ _ rfl)
      have HV4 := Lib.hid (hK4.blk hB3 (by omega)); have HT4 := Lib.hid hB4; have HX4 := Lib.hid (hK4.blk (hK3.blk HX2 (by omega)) (by omega)); have HZ4 := Lib.hid (hK4.blk (hK3.blk HZ2 (by omega)) (by omega))
      have HK4 := Lib.hid (Kept.fresh9 (Kept.fresh9 (HK1.out.trans hk2) hK3 (by omega)) hK4 (by omega))
      have hl4 := ldTape_blk HT4.out rfl
      have hv4 := ldRv_blk HV4.out rfl
      have s1 : (r.2.2 == 1) = true := by simpa using hs1
      have s2 : (r.2.2 != 1) = false := by simpa using hs1
      clear hs1
      clear hk2 HX2 HZ2 hB3 hK3 hB4 hK4 hl1 hv1)))
    | (go_at_call 88; ((with_reducible refine (rloadA HL.out HM.out (HS.out.kept HK4.out) c who seq r.1 r.2.1 (c.at_ 16 b k)).mono ?_); rintro e w5 ⟨rfl, hk5⟩; (
      obtain ⟨q, hq⟩ : ∃ q, q = loadR L seq r.1 r.2.1 (c.at_ 16 b k) := ⟨_, rfl⟩
      rw [← hq]
      rw [← hq] at HE
      clear hq
      obtain ⟨w6, hst6, hB6, hK6⟩ := stV_blk (ty := 34) (cells := rvA c who seq q.1.held q.1.stale) (hk5.blk HX4.out (fun h => h)) (by kernel_rfl) rfl (rvA_one _ _ _ _ _)
      obtain ⟨w7, hst7, hB7, hK7⟩ := stV_blk (ty := 47) (cells := tpA (.slice A m cp) q.2.1) (hK6.blk (hk5.blk HZ4.out (fun h => h)) (by omega)) (by kernel_rfl) rfl (tpA_one _ _ rfl)
      have HB6 := Lib.hid (hK7.blk hB6 (by omega))
      have HB7 := Lib.hid hB7
      have HK7 := Lib.hid (Kept.fresh9 (Kept.fresh9 (HK4.out.trans hk5) hK6 (by omega)) hK7 (by omega))
      clear hk5 hB6 hK6 hB7 hK7))))
  exact bodyPost_ret (v := rdV c who seq (.slice A m cp) q) (results_cctt (r := 10) (r2 := 11) _ _ (w.heap.size + 1 + 1) 34 (rvA c who seq q.1.held q.1.stale) (0, 0) _ rfl HB6.out Try.underlying34 rfl (by kernel_rfl) (w.heap.size + 1 + 1 + 1) 47 (tpA (.slice A m cp) q.2.1) (0, 0) _ rfl HB7.out Try.underlying47 rfl (by kernel_rfl) rfl) rfl ⟨by rw [HE.out], HK7.out⟩
theorem rWord_calls {w : World} {A : Option Addr} {m cp : Nat} {L : List OutD} (hL : L.length = m) (hm : m ≤ maxLen) (hs : SlAt w A 3 (L.map OutD.cells)) (c : CfgD) (hb : c.Bd) (who seq : Int) (x : XvD) (t : TpD) (b k : Int) :
    Calls Try.prog 61 #[.agg (rvA c who seq x.held x.stale), .agg (tpA (.slice A m cp) t), .int .i64 b, .int .i64 k] w fun e w' => e = .returned (rdV c who seq (.slice A m cp) (wordR c L who seq x t b k)) ∧ Kept (fun _ => False) w w' := by
  by_cases h : x.stale = true
  · exact rWord_stale hL hm hs c hb who seq x t b k h
  · have h' : x.stale = false := by simpa using h
    by_cases h2 : c.at_ 16 b k < 0
    · exact rWord_none hL hm hs c hb who seq x t b k h' h2
    · by_cases h3 : (liveR c L who seq x t b).2.2 = 1
      · exact rWord_load hL hm hs c hb who seq x t b k h' h2 h3
      · exact rWord_dead hL hm hs c hb who seq x t b k h' h2 h3
end Go.Proofs.Ythjkodjpopcjaaa
