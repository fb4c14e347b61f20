/- The document's view: Live. -/
import Derived.Test.YthjkodjpopcjaaaVwR
import Derived.Deep.AppendLies
namespace Go.Proofs.Ythjkodjpopcjaaa
open Go.RowKit

abbrev LvR := XvD × TpD × Int
/-- What is told behind the slot. -/
def liveEnd (b : Int) (r : RdR) : LvR := if r.2.2.2 = 1 then (if r.2.2.1 = 1 then ({ r.1 with held := b }, r.2.1, 1) else (r.1, r.2.1, 3)) else (r.1, r.2.1, r.2.2.2)
def liveTo (c : CfgD) (L : List OutD) (seq b : Int) (x : XvD) (t : TpD) : LvR := if t.need then (x, t, 0) else liveEnd b (loadR L seq { x with held := -1 } t (c.at_ 11 b 0))
def liveR (c : CfgD) (L : List OutD) (who seq : Int) (x : XvD) (t : TpD) (b : Int) : LvR :=
  if x.stale then (x, t, 2) else if b < 0 ∨ c.b ≤ b then (x, t, 3) else if x.held = b then (x, t, 1) else liveTo c L seq b x (doP L t ⟨1, c.at_ 3 who 0, 0, 0, b + 1, 0⟩).1
def lvV (c : CfgD) (who seq : Int) (sl : Value) (r : LvR) : Value := .tuple #[.agg (rvA c who seq r.1.held r.1.stale), .agg (tpA sl r.2.1), .int .i64 r.2.2]
theorem rAtA (c : CfgD) (h : c.Bd) (kind i k : Int) (w : World) : Calls Try.prog 59 #[.agg (cfgA c), .int .i64 kind, .int .i64 i, .int .i64 k] w fun e w' => e = .returned (.int .i64 (c.at_ kind i k)) ∧ Kept (fun _ => False) w w' := rAt_calls c h kind i k w
attribute [local go_sem ↓] ldTape_eq stTape_eq ldRv_eq stRv_eq loadCfg_eq
set_option maxRecDepth 100000 in
set_option maxHeartbeats 2000000 in
theorem rLive_stale {w : World} {A : Option Addr} {m cp : Nat} {L : List OutD} (hL : L.length = m) (hm : m ≤ maxLen) (hs : SlAt w A 3 (L.map OutD.cells)) (c : CfgD) (hb : c.Bd) (who seq : Int) (x : XvD) (t : TpD) (b : Int)
    (h : x.stale = true) :
    Calls Try.prog 62 #[.agg (rvA c who seq x.held x.stale), .agg (tpA (.slice A m cp) t), .int .i64 b] w fun e w' => e = .returned (lvV c who seq (.slice A m cp) (liveR c L who seq x t b)) ∧ Kept (fun _ => False) w w' := by
  have HS := Lib.hid hs
  have HL := Lib.hid hL
  have HM := Lib.hid hm
  have HBd := Lib.hid hb
  have HV0 : Hid (Blk ((((w.alloc (.cells (rvA c who seq x.held x.stale) 34)).alloc (.cells (tpA (.slice A m cp) t) 47)).alloc (.cells rv0 34)).alloc (.cells tp0 47)) w.heap.size 34 (rvA c who seq x.held x.stale)) := Lib.hid ((((Blk.new _ _ _).alloc _).alloc _).alloc _)
  have HT0 : Hid (Blk ((((w.alloc (.cells (rvA c who seq x.held x.stale) 34)).alloc (.cells (tpA (.slice A m cp) t) 47)).alloc (.cells rv0 34)).alloc (.cells tp0 47)) (w.heap.size + 1) 47 (tpA (.slice A m cp) t)) := Lib.hid (((Blk.new' _ _ _ _ (by simp)).alloc _).alloc _)
  have HX0 : Hid (Blk ((((w.alloc (.cells (rvA c who seq x.held x.stale) 34)).alloc (.cells (tpA (.slice A m cp) t) 47)).alloc (.cells rv0 34)).alloc (.cells tp0 47)) (w.heap.size + 1 + 1) 34 rv0) := Lib.hid ((Blk.new' _ _ _ _ (by simp)).alloc _)
  have HZ0 : Hid (Blk ((((w.alloc (.cells (rvA c who seq x.held x.stale) 34)).alloc (.cells (tpA (.slice A m cp) t) 47)).alloc (.cells rv0 34)).alloc (.cells tp0 47)) (w.heap.size + 1 + 1 + 1) 47 tp0) := Lib.hid (Blk.new' _ _ _ _ (by simp))
  have HK0 : Hid (Kept (fun _ => False) w ((((w.alloc (.cells (rvA c who seq x.held x.stale) 34)).alloc (.cells (tpA (.slice A m cp) t) 47)).alloc (.cells rv0 34)).alloc (.cells tp0 47))) := Lib.hid (((((Kept.refl _ _).alloc _).alloc _).alloc _).alloc _)
  have n0 : (rvA c who seq x.held x.stale)[9]? = some (.bool x.stale) := rfl
  have hc0 := loadCfg_view HV0.out
  have n1 : (rvA c who seq x.held x.stale)[1]? = some (.int .i64 c.b) := rfl
  have n6 : (rvA c who seq x.held x.stale)[6]? = some (.int .i64 who) := rfl
  have n8 : (rvA c who seq x.held x.stale)[8]? = some (.int .i64 x.held) := rfl
  have HE : Hid (liveR c L who seq x t b = (x, t, 2)) := Lib.hid (by unfold liveR; rw [if_pos h])
  replace n0 : (rvA c who seq x.held x.stale)[9]? = some (.bool true) := by rw [n0, h]
  unfold tp0 rv0 at hc0
  clear hs hL hm hb h
  obtain ⟨w5, hst5, hB5, hK5⟩ := stV_blk (ty := 34) (cells := (rvA c who seq x.held x.stale)) HX0.out.drew (by kernel_rfl) rfl (rvA_one _ _ _ _ _)
  have HV5 := hK5.blk HV0.out.drew (by omega)
  have HT5 := hK5.blk HT0.out.drew (by omega)
  obtain ⟨w6, hst6, hB6, hK6⟩ := stV_blk (ty := 47) (cells := tpA (.slice A m cp) t) (hK5.blk HZ0.out.drew (by omega)) (by kernel_rfl) rfl (tpA_one _ _ rfl)
  have HV6 := hK6.blk HV5 (by omega)
  have HT6 := hK6.blk HT5 (by omega)
  have HB5 := Lib.hid (hK6.blk hB5 (by omega))
  have HB6 := Lib.hid hB6
  have HK6 := Lib.hid (Kept.fresh9 (Kept.fresh9 HK0.out.drew hK5 (by omega)) hK6 (by omega))
  have S4 := Lib.hid (And.intro (ldRv_blk HV0.out.drew rfl) (ldTape_blk HT0.out.drew rfl))
  have S5 := Lib.hid (And.intro (ldRv_blk HV5 rfl) (ldTape_blk HT5 rfl))
  have S6 := Lib.hid (And.intro (ldRv_blk HV6 rfl) (ldTape_blk HT6 rfl))
  unfold tp0 rv0 at hst5
  clear hB5 hK5 HV5 HT5 hB6 hK6 HV6 HT6
  go_enter Try.func62, Try.ntmps62
  go_wp2_with fail
  go_region_held3 (fun w' => (ldRv ⟨w.heap.size, 0, none⟩).run Try.prog w' = .ok (.agg (rvA c who seq x.held x.stale)) w' ∧ (ldTape ⟨w.heap.size + 1, 0, none⟩).run Try.prog w' = .ok (.agg (tpA (.slice A m cp) t)) w')
        (first | exact S6.out | exact S5.out | exact S4.out) (fail)
  go_wp2_with fail
  exact bodyPost_ret (v := lvV c who seq (.slice A m cp) (x, t, 2)) (results_cct (r := 8) _ _ (w.heap.size + 1 + 1) 34 (rvA c who seq x.held x.stale) (0, 0) _ rfl HB5.out Try.underlying34 rfl (by kernel_rfl) (w.heap.size + 1 + 1 + 1) 47 (tpA (.slice A m cp) t) (0, 0) _ rfl HB6.out Try.underlying47 rfl (by kernel_rfl) rfl) rfl ⟨by rw [HE.out], HK6.out⟩
set_option maxRecDepth 100000 in
set_option maxHeartbeats 2000000 in
theorem rLive_low {w : World} {A : Option Addr} {m cp : Nat} {L : List OutD} (hL : L.length = m) (hm : m ≤ maxLen) (hs : SlAt w A 3 (L.map OutD.cells)) (c : CfgD) (hb : c.Bd) (who seq : Int) (x : XvD) (t : TpD) (b : Int)
    (h : x.stale = false) (h2 : b < 0) :
    Calls Try.prog 62 #[.agg (rvA c who seq x.held x.stale), .agg (tpA (.slice A m cp) t), .int .i64 b] w fun e w' => e = .returned (lvV c who seq (.slice A m cp) (liveR c L who seq x t b)) ∧ Kept (fun _ => False) w w' := by
  have HS := Lib.hid hs
  have HL := Lib.hid hL
  have HM := Lib.hid hm
  have HBd := Lib.hid hb
  have HV0 : Hid (Blk ((((w.alloc (.cells (rvA c who seq x.held x.stale) 34)).alloc (.cells (tpA (.slice A m cp) t) 47)).alloc (.cells rv0 34)).alloc (.cells tp0 47)) w.heap.size 34 (rvA c who seq x.held x.stale)) := Lib.hid ((((Blk.new _ _ _).alloc _).alloc _).alloc _)
  have HT0 : Hid (Blk ((((w.alloc (.cells (rvA c who seq x.held x.stale) 34)).alloc (.cells (tpA (.slice A m cp) t) 47)).alloc (.cells rv0 34)).alloc (.cells tp0 47)) (w.heap.size + 1) 47 (tpA (.slice A m cp) t)) := Lib.hid (((Blk.new' _ _ _ _ (by simp)).alloc _).alloc _)
  have HX0 : Hid (Blk ((((w.alloc (.cells (rvA c who seq x.held x.stale) 34)).alloc (.cells (tpA (.slice A m cp) t) 47)).alloc (.cells rv0 34)).alloc (.cells tp0 47)) (w.heap.size + 1 + 1) 34 rv0) := Lib.hid ((Blk.new' _ _ _ _ (by simp)).alloc _)
  have HZ0 : Hid (Blk ((((w.alloc (.cells (rvA c who seq x.held x.stale) 34)).alloc (.cells (tpA (.slice A m cp) t) 47)).alloc (.cells rv0 34)).alloc (.cells tp0 47)) (w.heap.size + 1 + 1 + 1) 47 tp0) := Lib.hid (Blk.new' _ _ _ _ (by simp))
  have HK0 : Hid (Kept (fun _ => False) w ((((w.alloc (.cells (rvA c who seq x.held x.stale) 34)).alloc (.cells (tpA (.slice A m cp) t) 47)).alloc (.cells rv0 34)).alloc (.cells tp0 47))) := Lib.hid (((((Kept.refl _ _).alloc _).alloc _).alloc _).alloc _)
  have n0 : (rvA c who seq x.held x.stale)[9]? = some (.bool x.stale) := rfl
  have hc0 := loadCfg_view HV0.out
  have n1 : (rvA c who seq x.held x.stale)[1]? = some (.int .i64 c.b) := rfl
  have n6 : (rvA c who seq x.held x.stale)[6]? = some (.int .i64 who) := rfl
  have n8 : (rvA c who seq x.held x.stale)[8]? = some (.int .i64 x.held) := rfl
  have hh : b < 0 ∨ c.b ≤ b := Or.inl h2
  have HE : Hid (liveR c L who seq x t b = (x, t, 3)) := Lib.hid (by unfold liveR; rw [if_neg (by simp [h]), if_pos hh])
  replace n0 : (rvA c who seq x.held x.stale)[9]? = some (.bool false) := by rw [n0, h]
  clear hh
  unfold tp0 rv0 at hc0
  clear hs hL hm hb h
  obtain ⟨w5, hst5, hB5, hK5⟩ := stV_blk (ty := 34) (cells := (rvA c who seq x.held x.stale)) HX0.out.drew (by kernel_rfl) rfl (rvA_one _ _ _ _ _)
  have HV5 := hK5.blk HV0.out.drew (by omega)
  have HT5 := hK5.blk HT0.out.drew (by omega)
  obtain ⟨w6, hst6, hB6, hK6⟩ := stV_blk (ty := 47) (cells := tpA (.slice A m cp) t) (hK5.blk HZ0.out.drew (by omega)) (by kernel_rfl) rfl (tpA_one _ _ rfl)
  have HV6 := hK6.blk HV5 (by omega)
  have HT6 := hK6.blk HT5 (by omega)
  have HB5 := Lib.hid (hK6.blk hB5 (by omega))
  have HB6 := Lib.hid hB6
  have HK6 := Lib.hid (Kept.fresh9 (Kept.fresh9 HK0.out.drew hK5 (by omega)) hK6 (by omega))
  have S4 := Lib.hid (And.intro (ldRv_blk HV0.out.drew rfl) (ldTape_blk HT0.out.drew rfl))
  have S5 := Lib.hid (And.intro (ldRv_blk HV5 rfl) (ldTape_blk HT5 rfl))
  have S6 := Lib.hid (And.intro (ldRv_blk HV6 rfl) (ldTape_blk HT6 rfl))
  unfold tp0 rv0 at hst5
  clear hB5 hK5 HV5 HT5 hB6 hK6 HV6 HT6
  go_enter Try.func62, Try.ntmps62
  go_wp2_with fail
  go_region_held3 (fun w' => (ldRv ⟨w.heap.size, 0, none⟩).run Try.prog w' = .ok (.agg (rvA c who seq x.held x.stale)) w' ∧ (ldTape ⟨w.heap.size + 1, 0, none⟩).run Try.prog w' = .ok (.agg (tpA (.slice A m cp) t)) w')
        (first | exact S6.out | exact S5.out | exact S4.out) (fail)
  go_wp2_with fail
  exact bodyPost_ret (v := lvV c who seq (.slice A m cp) (x, t, 3)) (results_cct (r := 8) _ _ (w.heap.size + 1 + 1) 34 (rvA c who seq x.held x.stale) (0, 0) _ rfl HB5.out Try.underlying34 rfl (by kernel_rfl) (w.heap.size + 1 + 1 + 1) 47 (tpA (.slice A m cp) t) (0, 0) _ rfl HB6.out Try.underlying47 rfl (by kernel_rfl) rfl) rfl ⟨by rw [HE.out], HK6.out⟩
set_option maxRecDepth 100000 in
set_option maxHeartbeats 2000000 in
theorem rLive_high {w : World} {A : Option Addr} {m cp : Nat} {L : List OutD} (hL : L.length = m) (hm : m ≤ maxLen) (hs : SlAt w A 3 (L.map OutD.cells)) (c : CfgD) (hb : c.Bd) (who seq : Int) (x : XvD) (t : TpD) (b : Int)
    (h : x.stale = false) (h2 : ¬ b < 0) (h3 : c.b ≤ b) :
    Calls Try.prog 62 #[.agg (rvA c who seq x.held x.stale), .agg (tpA (.slice A m cp) t), .int .i64 b] w fun e w' => e = .returned (lvV c who seq (.slice A m cp) (liveR c L who seq x t b)) ∧ Kept (fun _ => False) w w' := by
  have HS := Lib.hid hs
  have HL := Lib.hid hL
  have HM := Lib.hid hm
  have HBd := Lib.hid hb
  have HV0 : Hid (Blk ((((w.alloc (.cells (rvA c who seq x.held x.stale) 34)).alloc (.cells (tpA (.slice A m cp) t) 47)).alloc (.cells rv0 34)).alloc (.cells tp0 47)) w.heap.size 34 (rvA c who seq x.held x.stale)) := Lib.hid ((((Blk.new _ _ _).alloc _).alloc _).alloc _)
  have HT0 : Hid (Blk ((((w.alloc (.cells (rvA c who seq x.held x.stale) 34)).alloc (.cells (tpA (.slice A m cp) t) 47)).alloc (.cells rv0 34)).alloc (.cells tp0 47)) (w.heap.size + 1) 47 (tpA (.slice A m cp) t)) := Lib.hid (((Blk.new' _ _ _ _ (by simp)).alloc _).alloc _)
  have HX0 : Hid (Blk ((((w.alloc (.cells (rvA c who seq x.held x.stale) 34)).alloc (.cells (tpA (.slice A m cp) t) 47)).alloc (.cells rv0 34)).alloc (.cells tp0 47)) (w.heap.size + 1 + 1) 34 rv0) := Lib.hid ((Blk.new' _ _ _ _ (by simp)).alloc _)
  have HZ0 : Hid (Blk ((((w.alloc (.cells (rvA c who seq x.held x.stale) 34)).alloc (.cells (tpA (.slice A m cp) t) 47)).alloc (.cells rv0 34)).alloc (.cells tp0 47)) (w.heap.size + 1 + 1 + 1) 47 tp0) := Lib.hid (Blk.new' _ _ _ _ (by simp))
  have HK0 : Hid (Kept (fun _ => False) w ((((w.alloc (.cells (rvA c who seq x.held x.stale) 34)).alloc (.cells (tpA (.slice A m cp) t) 47)).alloc (.cells rv0 34)).alloc (.cells tp0 47))) := Lib.hid (((((Kept.refl _ _).alloc _).alloc _).alloc _).alloc _)
  have n0 : (rvA c who seq x.held x.stale)[9]? = some (.bool x.stale) := rfl
  have hc0 := loadCfg_view HV0.out
  have n1 : (rvA c who seq x.held x.stale)[1]? = some (.int .i64 c.b) := rfl
  have n6 : (rvA c who seq x.held x.stale)[6]? = some (.int .i64 who) := rfl
  have n8 : (rvA c who seq x.held x.stale)[8]? = some (.int .i64 x.held) := rfl
  have hh : b < 0 ∨ c.b ≤ b := Or.inr h3
  have HE : Hid (liveR c L who seq x t b = (x, t, 3)) := Lib.hid (by unfold liveR; rw [if_neg (by simp [h]), if_pos hh])
  replace n0 : (rvA c who seq x.held x.stale)[9]? = some (.bool false) := by rw [n0, h]
  clear hh
  unfold tp0 rv0 at hc0
  clear hs hL hm hb h
  obtain ⟨w5, hst5, hB5, hK5⟩ := stV_blk (ty := 34) (cells := (rvA c who seq x.held x.stale)) HX0.out.drew (by kernel_rfl) rfl (rvA_one _ _ _ _ _)
  have HV5 := hK5.blk HV0.out.drew (by omega)
  have HT5 := hK5.blk HT0.out.drew (by omega)
  obtain ⟨w6, hst6, hB6, hK6⟩ := stV_blk (ty := 47) (cells := tpA (.slice A m cp) t) (hK5.blk HZ0.out.drew (by omega)) (by kernel_rfl) rfl (tpA_one _ _ rfl)
  have HV6 := hK6.blk HV5 (by omega)
  have HT6 := hK6.blk HT5 (by omega)
  have HB5 := Lib.hid (hK6.blk hB5 (by omega))
  have HB6 := Lib.hid hB6
  have HK6 := Lib.hid (Kept.fresh9 (Kept.fresh9 HK0.out.drew hK5 (by omega)) hK6 (by omega))
  have S4 := Lib.hid (And.intro (ldRv_blk HV0.out.drew rfl) (ldTape_blk HT0.out.drew rfl))
  have S5 := Lib.hid (And.intro (ldRv_blk HV5 rfl) (ldTape_blk HT5 rfl))
  have S6 := Lib.hid (And.intro (ldRv_blk HV6 rfl) (ldTape_blk HT6 rfl))
  unfold tp0 rv0 at hst5
  clear hB5 hK5 HV5 HT5 hB6 hK6 HV6 HT6
  go_enter Try.func62, Try.ntmps62
  go_wp2_with fail
  go_region_held3 (fun w' => (ldRv ⟨w.heap.size, 0, none⟩).run Try.prog w' = .ok (.agg (rvA c who seq x.held x.stale)) w' ∧ (ldTape ⟨w.heap.size + 1, 0, none⟩).run Try.prog w' = .ok (.agg (tpA (.slice A m cp) t)) w')
        (first | exact S6.out | exact S5.out | exact S4.out) (fail)
  go_wp2_with fail
  exact bodyPost_ret (v := lvV c who seq (.slice A m cp) (x, t, 3)) (results_cct (r := 8) _ _ (w.heap.size + 1 + 1) 34 (rvA c who seq x.held x.stale) (0, 0) _ rfl HB5.out Try.underlying34 rfl (by kernel_rfl) (w.heap.size + 1 + 1 + 1) 47 (tpA (.slice A m cp) t) (0, 0) _ rfl HB6.out Try.underlying47 rfl (by kernel_rfl) rfl) rfl ⟨by rw [HE.out], HK6.out⟩
set_option maxRecDepth 100000 in
set_option maxHeartbeats 2000000 in
theorem rLive_held {w : World} {A : Option Addr} {m cp : Nat} {L : List OutD} (hL : L.length = m) (hm : m ≤ maxLen) (hs : SlAt w A 3 (L.map OutD.cells)) (c : CfgD) (hb : c.Bd) (who seq : Int) (x : XvD) (t : TpD) (b : Int)
    (h : x.stale = false) (h2 : ¬ b < 0) (h3 : ¬ c.b ≤ b) (h4 : x.held = b) :
    Calls Try.prog 62 #[.agg (rvA c who seq x.held x.stale), .agg (tpA (.slice A m cp) t), .int .i64 b] w fun e w' => e = .returned (lvV c who seq (.slice A m cp) (liveR c L who seq x t b)) ∧ Kept (fun _ => False) w w' := by
  have HS := Lib.hid hs
  have HL := Lib.hid hL
  have HM := Lib.hid hm
  have HBd := Lib.hid hb
  have HV0 : Hid (Blk ((((w.alloc (.cells (rvA c who seq x.held x.stale) 34)).alloc (.cells (tpA (.slice A m cp) t) 47)).alloc (.cells rv0 34)).alloc (.cells tp0 47)) w.heap.size 34 (rvA c who seq x.held x.stale)) := Lib.hid ((((Blk.new _ _ _).alloc _).alloc _).alloc _)
  have HT0 : Hid (Blk ((((w.alloc (.cells (rvA c who seq x.held x.stale) 34)).alloc (.cells (tpA (.slice A m cp) t) 47)).alloc (.cells rv0 34)).alloc (.cells tp0 47)) (w.heap.size + 1) 47 (tpA (.slice A m cp) t)) := Lib.hid (((Blk.new' _ _ _ _ (by simp)).alloc _).alloc _)
  have HX0 : Hid (Blk ((((w.alloc (.cells (rvA c who seq x.held x.stale) 34)).alloc (.cells (tpA (.slice A m cp) t) 47)).alloc (.cells rv0 34)).alloc (.cells tp0 47)) (w.heap.size + 1 + 1) 34 rv0) := Lib.hid ((Blk.new' _ _ _ _ (by simp)).alloc _)
  have HZ0 : Hid (Blk ((((w.alloc (.cells (rvA c who seq x.held x.stale) 34)).alloc (.cells (tpA (.slice A m cp) t) 47)).alloc (.cells rv0 34)).alloc (.cells tp0 47)) (w.heap.size + 1 + 1 + 1) 47 tp0) := Lib.hid (Blk.new' _ _ _ _ (by simp))
  have HK0 : Hid (Kept (fun _ => False) w ((((w.alloc (.cells (rvA c who seq x.held x.stale) 34)).alloc (.cells (tpA (.slice A m cp) t) 47)).alloc (.cells rv0 34)).alloc (.cells tp0 47))) := Lib.hid (((((Kept.refl _ _).alloc _).alloc _).alloc _).alloc _)
  have n0 : (rvA c who seq x.held x.stale)[9]? = some (.bool x.stale) := rfl
  have hc0 := loadCfg_view HV0.out
  have n1 : (rvA c who seq x.held x.stale)[1]? = some (.int .i64 c.b) := rfl
  have n6 : (rvA c who seq x.held x.stale)[6]? = some (.int .i64 who) := rfl
  have n8 : (rvA c who seq x.held x.stale)[8]? = some (.int .i64 x.held) := rfl
  have hh : ¬ (b < 0 ∨ c.b ≤ b) := not_or.2 ⟨h2, h3⟩
  have HE : Hid (liveR c L who seq x t b = (x, t, 1)) := Lib.hid (by unfold liveR; rw [if_neg (by simp [h]), if_neg hh, if_pos h4])
  replace n0 : (rvA c who seq x.held x.stale)[9]? = some (.bool false) := by rw [n0, h]
  clear hh
  unfold tp0 rv0 at hc0
  clear hs hL hm hb h
  obtain ⟨w5, hst5, hB5, hK5⟩ := stV_blk (ty := 34) (cells := (rvA c who seq x.held x.stale)) HX0.out.drew (by kernel_rfl) rfl (rvA_one _ _ _ _ _)
  have HV5 := hK5.blk HV0.out.drew (by omega)
  have HT5 := hK5.blk HT0.out.drew (by omega)
  obtain ⟨w6, hst6, hB6, hK6⟩ := stV_blk (ty := 47) (cells := tpA (.slice A m cp) t) (hK5.blk HZ0.out.drew (by omega)) (by kernel_rfl) rfl (tpA_one _ _ rfl)
  have HV6 := hK6.blk HV5 (by omega)
  have HT6 := hK6.blk HT5 (by omega)
  have HB5 := Lib.hid (hK6.blk hB5 (by omega))
  have HB6 := Lib.hid hB6
  have HK6 := Lib.hid (Kept.fresh9 (Kept.fresh9 HK0.out.drew hK5 (by omega)) hK6 (by omega))
  have S4 := Lib.hid (And.intro (ldRv_blk HV0.out.drew rfl) (ldTape_blk HT0.out.drew rfl))
  have S5 := Lib.hid (And.intro (ldRv_blk HV5 rfl) (ldTape_blk HT5 rfl))
  have S6 := Lib.hid (And.intro (ldRv_blk HV6 rfl) (ldTape_blk HT6 rfl))
  unfold tp0 rv0 at hst5
  clear hB5 hK5 HV5 HT5 hB6 hK6 HV6 HT6
  have h4' : (x.held == b) = true := by simpa using h4
  clear h4
  go_enter Try.func62, Try.ntmps62
  go_wp2_with fail
  go_region_held3 (fun w' => (ldRv ⟨w.heap.size, 0, none⟩).run Try.prog w' = .ok (.agg (rvA c who seq x.held x.stale)) w' ∧ (ldTape ⟨w.heap.size + 1, 0, none⟩).run Try.prog w' = .ok (.agg (tpA (.slice A m cp) t)) w')
        (first | exact S6.out | exact S5.out | exact S4.out) (fail)
  go_wp2_with fail
  exact bodyPost_ret (v := lvV c who seq (.slice A m cp) (x, t, 1)) (results_cct (r := 8) _ _ (w.heap.size + 1 + 1) 34 (rvA c who seq x.held x.stale) (0, 0) _ rfl HB5.out Try.underlying34 rfl (by kernel_rfl) (w.heap.size + 1 + 1 + 1) 47 (tpA (.slice A m cp) t) (0, 0) _ rfl HB6.out Try.underlying47 rfl (by kernel_rfl) rfl) rfl ⟨by rw [HE.out], HK6.out⟩
set_option maxRecDepth 100000 in
set_option maxHeartbeats 2000000 in
theorem rLive_ask {w : World} {A : Option Addr} {m cp : Nat} {L : List OutD} (hL : L.length = m) (hm : m ≤ maxLen) (hs : SlAt w A 3 (L.map OutD.cells)) (c : CfgD) (hb : c.Bd) (who seq : Int) (x : XvD) (t : TpD) (b : Int)
    (h : x.stale = false) (h2 : ¬ b < 0) (h3 : ¬ c.b ≤ b) (h4 : ¬ x.held = b) :
    Calls Try.prog 62 #[.agg (rvA c who seq x.held x.stale), .agg (tpA (.slice A m cp) t), .int .i64 b] w fun e w' => e = .returned (lvV c who seq (.slice A m cp) (liveR c L who seq x t b)) ∧ Kept (fun _ => False) w w' := by
  have HS := Lib.hid hs
  have HL := Lib.hid hL
  have HM := Lib.hid hm
  have HBd := Lib.hid hb
  have HV0 : Hid (Blk ((((w.alloc (.cells (rvA c who seq x.held x.stale) 34)).alloc (.cells (tpA (.slice A m cp) t) 47)).alloc (.cells rv0 34)).alloc (.cells tp0 47)) w.heap.size 34 (rvA c who seq x.held x.stale)) := Lib.hid ((((Blk.new _ _ _).alloc _).alloc _).alloc _)
  have HT0 : Hid (Blk ((((w.alloc (.cells (rvA c who seq x.held x.stale) 34)).alloc (.cells (tpA (.slice A m cp) t) 47)).alloc (.cells rv0 34)).alloc (.cells tp0 47)) (w.heap.size + 1) 47 (tpA (.slice A m cp) t)) := Lib.hid (((Blk.new' _ _ _ _ (by simp)).alloc _).alloc _)
  have HX0 : Hid (Blk ((((w.alloc (.cells (rvA c who seq x.held x.stale) 34)).alloc (.cells (tpA (.slice A m cp) t) 47)).alloc (.cells rv0 34)).alloc (.cells tp0 47)) (w.heap.size + 1 + 1) 34 rv0) := Lib.hid ((Blk.new' _ _ _ _ (by simp)).alloc _)
  have HZ0 : Hid (Blk ((((w.alloc (.cells (rvA c who seq x.held x.stale) 34)).alloc (.cells (tpA (.slice A m cp) t) 47)).alloc (.cells rv0 34)).alloc (.cells tp0 47)) (w.heap.size + 1 + 1 + 1) 47 tp0) := Lib.hid (Blk.new' _ _ _ _ (by simp))
  have HK0 : Hid (Kept (fun _ => False) w ((((w.alloc (.cells (rvA c who seq x.held x.stale) 34)).alloc (.cells (tpA (.slice A m cp) t) 47)).alloc (.cells rv0 34)).alloc (.cells tp0 47))) := Lib.hid (((((Kept.refl _ _).alloc _).alloc _).alloc _).alloc _)
  have n0 : (rvA c who seq x.held x.stale)[9]? = some (.bool x.stale) := rfl
  have hc0 := loadCfg_view HV0.out
  have n1 : (rvA c who seq x.held x.stale)[1]? = some (.int .i64 c.b) := rfl
  have n6 : (rvA c who seq x.held x.stale)[6]? = some (.int .i64 who) := rfl
  have n8 : (rvA c who seq x.held x.stale)[8]? = some (.int .i64 x.held) := rfl
  have hh : ¬ (b < 0 ∨ c.b ≤ b) := not_or.2 ⟨h2, h3⟩
  have HE : Hid (liveR c L who seq x t b = liveTo c L seq b x (doP L t ⟨1, c.at_ 3 who 0, 0, 0, b + 1, 0⟩).1) := Lib.hid (by unfold liveR; rw [if_neg (by simp [h]), if_neg hh, if_neg h4])
  clear hh
  replace n0 : (rvA c who seq x.held x.stale)[9]? = some (.bool false) := by rw [n0, h]
  unfold tp0 rv0 at hc0
  clear hs hL hm hb h
  have h4' : (x.held == b) = false := by simpa using h4
  have h0b : 0 ≤ b := by omega
  have h1b : b < 64 := by have := HBd.out.b1; have := HBd.out.b64; omega
  have e1 : IntKind.u64.wrap b = b := IntWalk.u64_in _ (by omega)
  have e2 : IntKind.u64.wrap (b + 1) = b + 1 := IntWalk.u64_in _ (by omega)
  clear h4 h0b h1b
  have hl0 := ldTape_blk (Blk.drew HT0.out) rfl
  have hd0 := loadCfg_view (Blk.drew HV0.out)
  unfold tp0 rv0 at hl0 hd0
  have HR : Hid (∃ t1, t1 = (doP L t ⟨1, c.at_ 3 who 0, 0, 0, b + 1, 0⟩).1) := Lib.hid ⟨_, rfl⟩
  go_enter Try.func62, Try.ntmps62
  go_wp2_with fail
  go_cut [] (fun wx => ∃ (t1 : TpD), t1 = (doP L t ⟨1, c.at_ 3 who 0, 0, 0, b + 1, 0⟩).1 ∧ Blk wx w.heap.size 34 (rvA c who seq x.held x.stale) ∧ Blk wx (w.heap.size + 1) 47 (tpA (.slice A m cp) t1) ∧ Blk wx (w.heap.size + 1 + 1) 34 rv0 ∧ Blk wx (w.heap.size + 1 + 1 + 1) 47 tp0 ∧ Kept (fun _ => False) w wx)
  case first =>
    go_region_law (first
      | (go_simp; go_at_call 59; ((with_reducible refine (rAtA c HBd.out 3 _ _ _).mono ?_); rintro e w1 ⟨rfl, hk1⟩; (
        have HV1 := Lib.hid (hk1.blk (Blk.drew HV0.out) (fun h => h)); have HT1 := Lib.hid (hk1.blk (Blk.drew HT0.out) (fun h => h)); have HX1 := Lib.hid (hk1.blk (Blk.drew HX0.out) (fun h => h)); have HZ1 := Lib.hid (hk1.blk (Blk.drew HZ0.out) (fun h => h)); have HK1 := Lib.hid (HK0.out.drew.trans hk1); have hl1 := ldTape_blk HT1.out rfl; clear hk1)))
      | (go_simp; go_at_call 89; ((with_reducible refine (rStore_calls HL.out HM.out (HS.out.kept HK1.out) t _ _ _).mono ?_); rintro e w2 ⟨rfl, hk2⟩; (
        obtain ⟨w3, hst3, hB3, hK3⟩ := stV_blk (ty := 47) (cells := tpA (.slice A m cp) (doP L t ⟨1, c.at_ 3 who 0, 0, 0, b + 1, 0⟩).1) (hk2.blk HT1.out (fun h => h)) (by kernel_rfl) rfl (tpA_one _ _ rfl)
        have HV3 := Lib.hid (hK3.blk (hk2.blk HV1.out (fun h => h)) (by omega)); have HT3 := Lib.hid hB3; have HX3 := Lib.hid (hK3.blk (hk2.blk HX1.out (fun h => h)) (by omega)); have HZ3 := Lib.hid (hK3.blk (hk2.blk HZ1.out (fun h => h)) (by omega)); have HK3 := Lib.hid (Kept.fresh9 (HK1.out.trans hk2) hK3 (by omega)); clear hk2 hB3 hK3))))
    all_goals (go_wp2_with fail; go_meet; (case rel => exact ⟨_, rfl, HV3.out, HT3.out, HX3.out, HZ3.out, HK3.out⟩))
  case rest =>
    obtain ⟨t1, ht1, h1, h2, h3, h4, hk⟩ := hcut
    clear hl0 hd0
    have HE := Lib.hid (HE.out.trans (by rw [← ht1] : liveTo c L seq b x (doP L t ⟨1, c.at_ 3 who 0, 0, 0, b + 1, 0⟩).1 = liveTo c L seq b x t1))
    clear ht1
    have H1 := Lib.hid h1
    have H2 := Lib.hid h2
    have H3 := Lib.hid h3
    have H4 := Lib.hid h4
    have HK := Lib.hid hk
    clear h1 h2 h3 h4 hk
    have m8 : wc.cell? ⟨w.heap.size + 1, 8, none⟩ = some (.bool t1.need) := Blk.cell H2.out 8
    by_cases hn : t1.need = true
    · rw [hn] at m8
      have HE := Lib.hid (HE.out.trans (by unfold liveTo; rw [if_pos hn] : liveTo c L seq b x t1 = (x, t1, 0)))
      clear hn
      go_wp2_with fail
      obtain ⟨w5, hst5, hB5, hK5⟩ := stV_blk (ty := 34) (cells := (rvA c who seq x.held x.stale)) H3.out.drew (by kernel_rfl) rfl (rvA_one _ _ _ _ _)
      have HV5 := hK5.blk H1.out.drew (by omega)
      have HT5 := hK5.blk H2.out.drew (by omega)
      obtain ⟨w6, hst6, hB6, hK6⟩ := stV_blk (ty := 47) (cells := tpA (.slice A m cp) t1) (hK5.blk H4.out.drew (by omega)) (by kernel_rfl) rfl (tpA_one _ _ rfl)
      have HV6 := hK6.blk HV5 (by omega)
      have HT6 := hK6.blk HT5 (by omega)
      have HB5 := Lib.hid (hK6.blk hB5 (by omega))
      have HB6 := Lib.hid hB6
      have HK6 := Lib.hid (Kept.fresh9 (Kept.fresh9 HK.out.drew hK5 (by omega)) hK6 (by omega))
      have S4 := Lib.hid (And.intro (ldRv_blk H1.out.drew rfl) (ldTape_blk H2.out.drew rfl))
      have S5 := Lib.hid (And.intro (ldRv_blk HV5 rfl) (ldTape_blk HT5 rfl))
      have S6 := Lib.hid (And.intro (ldRv_blk HV6 rfl) (ldTape_blk HT6 rfl))
      clear hB5 hK5 HV5 HT5 hB6 hK6 HV6 HT6
      go_region_held3 (fun w' => (ldRv ⟨w.heap.size, 0, none⟩).run Try.prog w' = .ok (.agg (rvA c who seq x.held x.stale)) w' ∧ (ldTape ⟨w.heap.size + 1, 0, none⟩).run Try.prog w' = .ok (.agg (tpA (.slice A m cp) t1)) w')
            (first | exact S6.out | exact S5.out | exact S4.out) (fail)
      go_wp2_with fail
      exact bodyPost_ret (v := lvV c who seq (.slice A m cp) (x, t1, 0)) (results_cct (r := 8) _ _ (w.heap.size + 1 + 1) 34 (rvA c who seq x.held x.stale) (0, 0) _ rfl HB5.out Try.underlying34 rfl (by kernel_rfl) (w.heap.size + 1 + 1 + 1) 47 (tpA (.slice A m cp) t1) (0, 0) _ rfl HB6.out Try.underlying47 rfl (by kernel_rfl) rfl) rfl ⟨by rw [HE.out], HK6.out⟩
    · have HE := Lib.hid (HE.out.trans (by unfold liveTo; rw [if_neg hn] : liveTo c L seq b x t1 = liveEnd b (loadR L seq ({ x with held := -1 } : XvD) t1 (c.at_ 11 b 0))))
      rw [show t1.need = false by simpa using hn] at m8
      clear hn
      have z8 := Blk.frozen H1.out 8
      have q8 : wc.cell? ⟨w.heap.size, 8, none⟩ = some (.int .i64 x.held) := Blk.cell H1.out 8
      have HV5 : Hid (Blk (wc.setCell ⟨w.heap.size, 8, none⟩ (.int .i64 (-1))).drew w.heap.size 34 (rvA c who seq ({ x with held := -1 } : XvD).held ({ x with held := -1 } : XvD).stale)) := Lib.hid (Blk.drew (H1.out.set_ 8 _))
      have HT5 : Hid (Blk (wc.setCell ⟨w.heap.size, 8, none⟩ (.int .i64 (-1))).drew (w.heap.size + 1) 47 (tpA (.slice A m cp) t1)) := Lib.hid (Blk.drew (H2.out.far (by dsimp only; omega) _))
      have HX5 : Hid (Blk (wc.setCell ⟨w.heap.size, 8, none⟩ (.int .i64 (-1))).drew (w.heap.size + 1 + 1) 34 rv0) := Lib.hid (Blk.drew (H3.out.far (by dsimp only; omega) _))
      have HZ5 : Hid (Blk (wc.setCell ⟨w.heap.size, 8, none⟩ (.int .i64 (-1))).drew (w.heap.size + 1 + 1 + 1) 47 tp0) := Lib.hid (Blk.drew (H4.out.far (by dsimp only; omega) _))
      have HK5 : Hid (Kept (fun _ => False) w (wc.setCell ⟨w.heap.size, 8, none⟩ (.int .i64 (-1))).drew) := Lib.hid (Kept.drew (HK.out.setCell (p := ⟨w.heap.size, 8, none⟩) (.inr (Nat.le_refl _)) _))
      have hl5 := ldTape_blk HT5.out rfl
      have hv5 := ldRv_blk HV5.out rfl
      have hd5 := loadCfg_view (x := ({ x with held := -1 } : XvD)) HV5.out
      go_wp2_with fail
      go_cut [9, 10] (fun sv ss wx => ∃ (r : RdR), r = loadR L seq ({ x with held := -1 } : XvD) t1 (c.at_ 11 b 0) ∧ sv = .int .u64 r.2.2.1 ∧ ss = .int .i64 r.2.2.2 ∧ Blk wx w.heap.size 34 (rvA c who seq r.1.held r.1.stale) ∧ Blk wx (w.heap.size + 1) 47 (tpA (.slice A m cp) r.2.1) ∧ Blk wx (w.heap.size + 1 + 1) 34 rv0 ∧ Blk wx (w.heap.size + 1 + 1 + 1) 47 tp0 ∧ Kept (fun _ => False) w wx)
      case first =>
        go_region_law (first
          | (go_simp; go_at_call 59; ((with_reducible refine (rAtA c HBd.out 11 _ _ _).mono ?_); rintro e w1 ⟨rfl, hk1⟩; (
            have HV6 := Lib.hid (hk1.blk HV5.out (fun h => h)); have HT6 := Lib.hid (hk1.blk HT5.out (fun h => h)); have HX6 := Lib.hid (hk1.blk HX5.out (fun h => h)); have HZ6 := Lib.hid (hk1.blk HZ5.out (fun h => h)); have HK6 := Lib.hid (HK5.out.trans hk1); have hl6 := ldTape_blk HT6.out rfl; have hv6 := ldRv_blk HV6.out rfl; clear hk1)))
          | (go_simp; go_at_call 88; ((with_reducible refine (rloadA HL.out HM.out (HS.out.kept HK6.out) c who seq ({ x with held := -1 } : XvD) t1 (c.at_ 11 b 0)).mono ?_); rintro e w2 ⟨rfl, hk2⟩; (
            obtain ⟨w3, hst3, hB3, hK3⟩ := stV_blk (ty := 34) (cells := rvA c who seq (loadR L seq ({ x with held := -1 } : XvD) t1 (c.at_ 11 b 0)).1.held (loadR L seq ({ x with held := -1 } : XvD) t1 (c.at_ 11 b 0)).1.stale) (hk2.blk HV6.out (fun h => h)) (by kernel_rfl) rfl (rvA_one _ _ _ _ _)
            obtain ⟨w4, hst4, hB4, hK4⟩ := stV_blk (ty := 47) (cells := tpA (.slice A m cp) (loadR L seq ({ x with held := -1 } : XvD) t1 (c.at_ 11 b 0)).2.1) (hK3.blk (hk2.blk HT6.out (fun h => h)) (by omega)) (by kernel_rfl) rfl (tpA_one _ _ rfl)
            have HV7 := Lib.hid (hK4.blk hB3 (by omega)); have HT7 := Lib.hid hB4; have HX7 := Lib.hid (hK4.blk (hK3.blk (hk2.blk HX6.out (fun h => h)) (by omega)) (by omega)); have HZ7 := Lib.hid (hK4.blk (hK3.blk (hk2.blk HZ6.out (fun h => h)) (by omega)) (by omega)); have HK7 := Lib.hid (Kept.fresh9 (Kept.fresh9 (HK6.out.trans hk2) hK3 (by omega)) hK4 (by omega)); clear hk2 hB3 hK3 hB4 hK4))))
        all_goals (go_wp2_with fail; go_meet; (case rel => exact ⟨_, rfl, rfl, rfl, HV7.out, HT7.out, HX7.out, HZ7.out, HK7.out⟩))
      case rest =>
        clear hl5 hv5 hd5 m8 z8 q8
        obtain ⟨r, hr, rfl, rfl, h1, h2, h3, h4, hk⟩ := hcut
        rw [← hr] at HE
        have H1 := Lib.hid h1
        have H2 := Lib.hid h2
        have H3 := Lib.hid h3
        have H4 := Lib.hid h4
        have HK := Lib.hid hk
        clear hr h1 h2 h3 h4 hk
        by_cases g1 : r.2.2.2 = 1
        · by_cases g2 : r.2.2.1 = 1
          · have HE := Lib.hid (HE.out.trans (by unfold liveEnd; rw [if_pos g1, if_pos g2, g1] : liveEnd b r = ({ r.1 with held := b }, r.2.1, r.2.2.2)))
            have g1' : (r.2.2.2 == 1) = true := by simpa using g1
            have g2' : (r.2.2.1 == 1) = true := by simpa using g2
            have g2'' : (r.2.2.1 != 1) = false := by simpa using g2
            clear g1 g2
            have q8 : wc.cell? ⟨w.heap.size, 8, none⟩ = some (.int .i64 r.1.held) := Blk.cell H1.out 8
            have z8 := Blk.frozen H1.out 8
            go_wp2_with fail
            clear g1' g2' g2'' q8 z8
            have HV9 : Blk (wc.setCell ⟨w.heap.size, 8, none⟩ (.int .i64 b)).drew w.heap.size 34 (rvA c who seq b r.1.stale) := Blk.drew (H1.out.set_ 8 _)
            have HT9 : Blk (wc.setCell ⟨w.heap.size, 8, none⟩ (.int .i64 b)).drew (w.heap.size + 1) 47 (tpA (.slice A m cp) r.2.1) := Blk.drew (H2.out.far (by dsimp only; omega) _)
            have HX9 : Blk (wc.setCell ⟨w.heap.size, 8, none⟩ (.int .i64 b)).drew (w.heap.size + 1 + 1) 34 rv0 := Blk.drew (H3.out.far (by dsimp only; omega) _)
            have HZ9 : Blk (wc.setCell ⟨w.heap.size, 8, none⟩ (.int .i64 b)).drew (w.heap.size + 1 + 1 + 1) 47 tp0 := Blk.drew (H4.out.far (by dsimp only; omega) _)
            obtain ⟨w5, hst5, hB5, hK5⟩ := stV_blk (ty := 34) (cells := (rvA c who seq b r.1.stale)) HX9 (by kernel_rfl) rfl (rvA_one _ _ _ _ _)
            have HV5 := hK5.blk HV9 (by omega)
            have HT5 := hK5.blk HT9 (by omega)
            obtain ⟨w6, hst6, hB6, hK6⟩ := stV_blk (ty := 47) (cells := tpA (.slice A m cp) r.2.1) (hK5.blk HZ9 (by omega)) (by kernel_rfl) rfl (tpA_one _ _ rfl)
            have HV6 := hK6.blk HV5 (by omega)
            have HT6 := hK6.blk HT5 (by omega)
            have HB5 := Lib.hid (hK6.blk hB5 (by omega))
            have HB6 := Lib.hid hB6
            have HK6 := Lib.hid (Kept.fresh9 (Kept.fresh9 (HK.out.setCell (p := ⟨w.heap.size, 8, none⟩) (.inr (Nat.le_refl _)) (.int .i64 b)).drew hK5 (by omega)) hK6 (by omega))
            have S4 := Lib.hid (And.intro (ldRv_blk HV9 rfl) (ldTape_blk HT9 rfl))
            have S5 := Lib.hid (And.intro (ldRv_blk HV5 rfl) (ldTape_blk HT5 rfl))
            have S6 := Lib.hid (And.intro (ldRv_blk HV6 rfl) (ldTape_blk HT6 rfl))
            clear hB5 hK5 HV5 HT5 hB6 hK6 HV6 HT6
            go_region_held3 (fun w' => (ldRv ⟨w.heap.size, 0, none⟩).run Try.prog w' = .ok (.agg (rvA c who seq b r.1.stale)) w' ∧ (ldTape ⟨w.heap.size + 1, 0, none⟩).run Try.prog w' = .ok (.agg (tpA (.slice A m cp) r.2.1)) w')
                  (first | exact S6.out | exact S5.out | exact S4.out) (fail)
            go_wp2_with fail
            exact bodyPost_ret (v := lvV c who seq (.slice A m cp) ({ r.1 with held := b }, r.2.1, r.2.2.2)) (results_cct (r := 8) _ _ (w.heap.size + 1 + 1) 34 (rvA c who seq b r.1.stale) (0, 0) _ rfl HB5.out Try.underlying34 rfl (by kernel_rfl) (w.heap.size + 1 + 1 + 1) 47 (tpA (.slice A m cp) r.2.1) (0, 0) _ rfl HB6.out Try.underlying47 rfl (by kernel_rfl) rfl) rfl ⟨by rw [HE.out], HK6.out⟩
          · have HE := Lib.hid (HE.out.trans (by unfold liveEnd; rw [if_pos g1, if_neg g2] : liveEnd b r = (r.1, r.2.1, 3)))
            have g1' : (r.2.2.2 == 1) = true := by simpa using g1
            have g2' : (r.2.2.1 == 1) = false := by simpa using g2
            have g2'' : (r.2.2.1 != 1) = true := by simpa using g2
            clear g1 g2
            go_wp2_with fail
            clear g1' g2' g2''
            obtain ⟨w5, hst5, hB5, hK5⟩ := stV_blk (ty := 34) (cells := (rvA c who seq r.1.held r.1.stale)) H3.out.drew (by kernel_rfl) rfl (rvA_one _ _ _ _ _)
            have HV5 := hK5.blk H1.out.drew (by omega)
            have HT5 := hK5.blk H2.out.drew (by omega)
            obtain ⟨w6, hst6, hB6, hK6⟩ := stV_blk (ty := 47) (cells := tpA (.slice A m cp) r.2.1) (hK5.blk H4.out.drew (by omega)) (by kernel_rfl) rfl (tpA_one _ _ rfl)
            have HV6 := hK6.blk HV5 (by omega)
            have HT6 := hK6.blk HT5 (by omega)
            have HB5 := Lib.hid (hK6.blk hB5 (by omega))
            have HB6 := Lib.hid hB6
            have HK6 := Lib.hid (Kept.fresh9 (Kept.fresh9 HK.out.drew hK5 (by omega)) hK6 (by omega))
            have S4 := Lib.hid (And.intro (ldRv_blk H1.out.drew rfl) (ldTape_blk H2.out.drew rfl))
            have S5 := Lib.hid (And.intro (ldRv_blk HV5 rfl) (ldTape_blk HT5 rfl))
            have S6 := Lib.hid (And.intro (ldRv_blk HV6 rfl) (ldTape_blk HT6 rfl))
            clear hB5 hK5 HV5 HT5 hB6 hK6 HV6 HT6
            go_region_held3 (fun w' => (ldRv ⟨w.heap.size, 0, none⟩).run Try.prog w' = .ok (.agg (rvA c who seq r.1.held r.1.stale)) w' ∧ (ldTape ⟨w.heap.size + 1, 0, none⟩).run Try.prog w' = .ok (.agg (tpA (.slice A m cp) r.2.1)) w')
                  (first | exact S6.out | exact S5.out | exact S4.out) (fail)
            go_wp2_with fail
            exact bodyPost_ret (v := lvV c who seq (.slice A m cp) (r.1, r.2.1, 3)) (results_cct (r := 8) _ _ (w.heap.size + 1 + 1) 34 (rvA c who seq r.1.held r.1.stale) (0, 0) _ rfl HB5.out Try.underlying34 rfl (by kernel_rfl) (w.heap.size + 1 + 1 + 1) 47 (tpA (.slice A m cp) r.2.1) (0, 0) _ rfl HB6.out Try.underlying47 rfl (by kernel_rfl) rfl) rfl ⟨by rw [HE.out], HK6.out⟩
        · have HE := Lib.hid (HE.out.trans (by unfold liveEnd; rw [if_neg g1] : liveEnd b r = (r.1, r.2.1, r.2.2.2)))
          have g1' : (r.2.2.2 == 1) = false := by simpa using g1
          clear g1
          go_wp2_with fail
          clear g1'
          obtain ⟨w5, hst5, hB5, hK5⟩ := stV_blk (ty := 34) (cells := (rvA c who seq r.1.held r.1.stale)) H3.out.drew (by kernel_rfl) rfl (rvA_one _ _ _ _ _)
          have HV5 := hK5.blk H1.out.drew (by omega)
          have HT5 := hK5.blk H2.out.drew (by omega)
          obtain ⟨w6, hst6, hB6, hK6⟩ := stV_blk (ty := 47) (cells := tpA (.slice A m cp) r.2.1) (hK5.blk H4.out.drew (by omega)) (by kernel_rfl) rfl (tpA_one _ _ rfl)
          have HV6 := hK6.blk HV5 (by omega)
          have HT6 := hK6.blk HT5 (by omega)
          have HB5 := Lib.hid (hK6.blk hB5 (by omega))
          have HB6 := Lib.hid hB6
          have HK6 := Lib.hid (Kept.fresh9 (Kept.fresh9 HK.out.drew hK5 (by omega)) hK6 (by omega))
          have S4 := Lib.hid (And.intro (ldRv_blk H1.out.drew rfl) (ldTape_blk H2.out.drew rfl))
          have S5 := Lib.hid (And.intro (ldRv_blk HV5 rfl) (ldTape_blk HT5 rfl))
          have S6 := Lib.hid (And.intro (ldRv_blk HV6 rfl) (ldTape_blk HT6 rfl))
          clear hB5 hK5 HV5 HT5 hB6 hK6 HV6 HT6
          go_region_held3 (fun w' => (ldRv ⟨w.heap.size, 0, none⟩).run Try.prog w' = .ok (.agg (rvA c who seq r.1.held r.1.stale)) w' ∧ (ldTape ⟨w.heap.size + 1, 0, none⟩).run Try.prog w' = .ok (.agg (tpA (.slice A m cp) r.2.1)) w')
                (first | exact S6.out | exact S5.out | exact S4.out) (fail)
          go_wp2_with fail
          exact bodyPost_ret (v := lvV c who seq (.slice A m cp) (r.1, r.2.1, r.2.2.2)) (results_cct (r := 8) _ _ (w.heap.size + 1 + 1) 34 (rvA c who seq r.1.held r.1.stale) (0, 0) _ rfl HB5.out Try.underlying34 rfl (by kernel_rfl) (w.heap.size + 1 + 1 + 1) 47 (tpA (.slice A m cp) r.2.1) (0, 0) _ rfl HB6.out Try.underlying47 rfl (by kernel_rfl) rfl) rfl ⟨by rw [HE.out], HK6.out⟩
theorem rLive_calls {w : World} {A : Option Addr} {m cp : Nat} {L : List OutD} (hL : L.length = m) (hm : m ≤ maxLen) (hs : SlAt w A 3 (L.map OutD.cells)) (c : CfgD) (hb : c.Bd) (who seq : Int) (x : XvD) (t : TpD) (b : Int) :
    Calls Try.prog 62 #[.agg (rvA c who seq x.held x.stale), .agg (tpA (.slice A m cp) t), .int .i64 b] w fun e w' => e = .returned (lvV c who seq (.slice A m cp) (liveR c L who seq x t b)) ∧ Kept (fun _ => False) w w' := by
  by_cases h : x.stale = true
  · exact rLive_stale hL hm hs c hb who seq x t b h
  · have h' : x.stale = false := by simpa using h
    by_cases h2 : b < 0
    · exact rLive_low hL hm hs c hb who seq x t b h' h2
    · by_cases h3 : c.b ≤ b
      · exact rLive_high hL hm hs c hb who seq x t b h' h2 h3
      · by_cases h4 : x.held = b
        · exact rLive_held hL hm hs c hb who seq x t b h' h2 h3 h4
        · exact rLive_ask hL hm hs c hb who seq x t b h' h2 h3 h4
end Go.Proofs.Ythjkodjpopcjaaa
