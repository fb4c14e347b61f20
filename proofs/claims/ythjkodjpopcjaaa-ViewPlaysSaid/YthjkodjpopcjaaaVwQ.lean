/- The document's view: load, Cell, Live, Word. -/
import Derived.Test.YthjkodjpopcjaaaVwP
namespace Go.Proofs.Ythjkodjpopcjaaa
open Go.RowKit

/-- What turns in the document's view. -/
structure XvD where
  held : Int
  stale : Bool
abbrev RdR := XvD × TpD × Int × Int
def ldR (L : List OutD) (seq : Int) (x : XvD) (r : TpD × OutD) : RdR :=
  if r.1.need then (x, r.1, 0, 0) else if seq < r.2.seq then ({ x with stale := true }, r.1, 0, 2) else (x, r.1, r.2.val, 1)
def loadR (L : List OutD) (seq : Int) (x : XvD) (t : TpD) (p : Int) : RdR := ldR L seq x (ldP L t p)
def rdV (c : CfgD) (who seq : Int) (sl : Value) (r : RdR) : Value := .tuple #[.agg (rvA c who seq r.1.held r.1.stale), .agg (tpA sl r.2.1), .int .u64 r.2.2.1, .int .i64 r.2.2.2]
def ldRv (a : Addr) : Sem Value := loadVar 34 a
theorem ldRv_eq (a : Addr) : loadVar 34 a = ldRv a := rfl
theorem ldRv_blk {w : World} {B : Nat} {cs : Array Value} (h : Blk w B 34 cs) (hc : cs.size = 10) : (ldRv ⟨B, 0, none⟩).run Try.prog w = .ok (.agg cs) w :=
  run_loadVar_row w B 34 34 cs (0, 0) _ h Try.underlying34 rfl (by rw [hc]; kernel_rfl)
theorem loadA {w : World} {A : Option Addr} {m c : Nat} {L : List OutD} (hL : L.length = m) (hm : m ≤ maxLen) (hs : SlAt w A 3 (L.map OutD.cells)) (t : TpD) (p : Int) :
    Calls Try.prog 67 #[.agg (tpA (.slice A m c) t), .int .i64 p] w fun e w' => e = .returned (.tuple #[.agg (tpA (.slice A m c) (ldP L t p).1), .agg (cellA (ldP L t p).2.val (ldP L t p).2.seq)]) ∧ Kept (fun _ => False) w w' := rLoad_calls hL hm hs t p
attribute [local go_sem ↓] ldTape_eq stTape_eq ldRv_eq stRv_eq stCell_eq
set_option maxRecDepth 100000 in
set_option maxHeartbeats 2000000 in
theorem rload_ask {w : World} {A : Option Addr} {m cp : Nat} {L : List OutD} (hL : L.length = m) (hm : m ≤ maxLen) (hs : SlAt w A 3 (L.map OutD.cells)) (c : CfgD) (who seq : Int) (x : XvD) (t : TpD) (p : Int)
    (h : (ldP L t p).1.need = true) :
    Calls Try.prog 88 #[.agg (rvA c who seq x.held x.stale), .agg (tpA (.slice A m cp) t), .int .i64 p] w fun e w' => e = .returned (rdV c who seq (.slice A m cp) (loadR L seq x t p)) ∧ Kept (fun _ => False) w w' := by
  have HS := Lib.hid hs
  have HL := Lib.hid hL
  have HM := Lib.hid hm
  have HV0 : Hid (Blk ((((w.alloc (.cells (rvA c who seq x.held x.stale) 34)).alloc (.cells (tpA (.slice A m cp) t) 47)).alloc (.cells rv0 34)).alloc (.cells tp0 47)) w.heap.size 34 (rvA c who seq x.held x.stale)) := Lib.hid ((((Blk.new _ _ _).alloc _).alloc _).alloc _)
  have HT0 : Hid (Blk ((((w.alloc (.cells (rvA c who seq x.held x.stale) 34)).alloc (.cells (tpA (.slice A m cp) t) 47)).alloc (.cells rv0 34)).alloc (.cells tp0 47)) (w.heap.size + 1) 47 (tpA (.slice A m cp) t)) := Lib.hid (((Blk.new' _ _ _ _ (by simp)).alloc _).alloc _)
  have HX0 : Hid (Blk ((((w.alloc (.cells (rvA c who seq x.held x.stale) 34)).alloc (.cells (tpA (.slice A m cp) t) 47)).alloc (.cells rv0 34)).alloc (.cells tp0 47)) (w.heap.size + 1 + 1) 34 rv0) := Lib.hid ((Blk.new' _ _ _ _ (by simp)).alloc _)
  have HZ0 : Hid (Blk ((((w.alloc (.cells (rvA c who seq x.held x.stale) 34)).alloc (.cells (tpA (.slice A m cp) t) 47)).alloc (.cells rv0 34)).alloc (.cells tp0 47)) (w.heap.size + 1 + 1 + 1) 47 tp0) := Lib.hid (Blk.new' _ _ _ _ (by simp))
  have HK0 : Hid (Kept (fun _ => False) w ((((w.alloc (.cells (rvA c who seq x.held x.stale) 34)).alloc (.cells (tpA (.slice A m cp) t) 47)).alloc (.cells rv0 34)).alloc (.cells tp0 47))) := Lib.hid (((((Kept.refl _ _).alloc _).alloc _).alloc _).alloc _)
  have hl0 := ldTape_blk HT0.out rfl
  unfold tp0 rv0 at hl0
  clear hs hL hm
  have HR : Hid (∃ r, r = ldP L t p ∧ r.1.need = true) := Lib.hid ⟨_, rfl, h⟩
  clear h
  go_enter Try.func88, Try.ntmps88
  go_wp2_with (go_at_call 67; ((refine (loadA HL.out HM.out (HS.out.kept HK0.out) t _).mono ?_); rintro e w1 ⟨rfl, hk1⟩; (
    obtain ⟨r, hr, hc⟩ := HR.out
    rw [← hr]
    have hE : loadR L seq x t p = ldR L seq x r := by unfold loadR; rw [hr]
    have hE : loadR L seq x t p = (x, r.1, 0, 0) := by rw [hE]; unfold ldR; rw [if_pos hc]
    have HE := Lib.hid hE
    clear hr hE
    have hz : w.heap.size + 4 ≤ w1.heap.size := by have := HZ0.out.lt; have := hk1.size; omega
    have HV1 := (hk1.blk HV0.out (fun h => h)).alloc (.cells #[.int .u64 0, .int .u64 0] 41)
    have HT1 := (hk1.blk HT0.out (fun h => h)).alloc (.cells #[.int .u64 0, .int .u64 0] 41)
    have HX1 := (hk1.blk HX0.out (fun h => h)).alloc (.cells #[.int .u64 0, .int .u64 0] 41)
    have HZ1 := (hk1.blk HZ0.out (fun h => h)).alloc (.cells #[.int .u64 0, .int .u64 0] 41)
    have HO1 : Blk (w1.alloc (.cells #[.int .u64 0, .int .u64 0] 41)) w1.heap.size 41 #[.int .u64 0, .int .u64 0] := Blk.new _ _ _
    have HK1 := (HK0.out.trans hk1).alloc (.cells #[.int .u64 0, .int .u64 0] 41)
    obtain ⟨w2, hst2, hB2, hK2⟩ := stV_blk (ty := 47) (cells := tpA (.slice A m cp) r.1) HT1 (by kernel_rfl) rfl (tpA_one _ _ rfl)
    obtain ⟨w3, hst3, hB3, hK3⟩ := stV_blk (ty := 41) (cells := cellA r.2.val r.2.seq) (hK2.blk HO1 (by omega)) (by kernel_rfl) rfl (cellA_one _ _)
    have HV3 := Lib.hid (hK3.blk (hK2.blk HV1 (by omega)) (by omega))
    have HT3 := Lib.hid (hK3.blk hB2 (by omega))
    have HX3 := Lib.hid (hK3.blk (hK2.blk HX1 (by omega)) (by omega))
    have HZ3 := Lib.hid (hK3.blk (hK2.blk HZ1 (by omega)) (by omega))
    have HO3 := Lib.hid hB3
    have HK3 := Lib.hid (Kept.fresh9 (Kept.fresh9 HK1 hK2 (by omega)) hK3 (by omega))
    have Hz := Lib.hid hz
    have n0 : w3.cell? ⟨w.heap.size + 1, 8, none⟩ = some (.bool r.1.need) := Blk.cell HT3.out 8
    have n1 : w3.cell? ⟨w1.heap.size, 1, none⟩ = some (.int .u64 r.2.seq) := Blk.cell HO3.out 1
    have n2 : w3.cell? ⟨w.heap.size, 7, none⟩ = some (.int .u64 seq) := Blk.cell HV3.out 7
    have n3 := Blk.frozen HV3.out 9
    have n4 : w3.cell? ⟨w.heap.size, 9, none⟩ = some (.bool x.stale) := Blk.cell HV3.out 9
    rw [hc] at n0; clear hc
    clear hk1 HV1 HT1 HX1 HZ1 HO1 HK1 hB2 hK2 hB3 hK3 hz hl0)))
  skip
  have HV4 : Blk w3.drew w.heap.size 34 (rvA c who seq x.held x.stale) := HV3.out.drew
  have HT4 : Blk w3.drew (w.heap.size + 1) 47 (tpA (.slice A m cp) r.1) := HT3.out.drew
  have HX4 : Blk w3.drew (w.heap.size + 1 + 1) 34 rv0 := HX3.out.drew
  have HZ4 : Blk w3.drew (w.heap.size + 1 + 1 + 1) 47 tp0 := HZ3.out.drew
  have HO4 : Blk w3.drew w1.heap.size 41 (cellA r.2.val r.2.seq) := HO3.out.drew
  have HK4 : Kept (fun _ => False) w w3.drew := HK3.out.drew
  obtain ⟨w5, hst5, hB5, hK5⟩ := stV_blk (ty := 34) (cells := (rvA c who seq x.held x.stale)) HX4 (by kernel_rfl) rfl (rvA_one _ _ _ _ _)
  have HV5 := hK5.blk HV4 (by omega)
  have HT5 := hK5.blk HT4 (by omega)
  have HO5 := hK5.blk HO4 (by have := Hz.out; omega)
  obtain ⟨w6, hst6, hB6, hK6⟩ := stV_blk (ty := 47) (cells := tpA (.slice A m cp) r.1) (hK5.blk HZ4 (by omega)) (by kernel_rfl) rfl (tpA_one _ _ rfl)
  have HV6 := hK6.blk HV5 (by omega)
  have HT6 := hK6.blk HT5 (by omega)
  have HO6 := hK6.blk HO5 (by have := Hz.out; omega)
  have HB5 := Lib.hid (hK6.blk hB5 (by omega))
  have HB6 := Lib.hid hB6
  have HK6 := Lib.hid (Kept.fresh9 (Kept.fresh9 HK4 hK5 (by omega)) hK6 (by omega))
  have S4 := Lib.hid (And.intro (ldRv_blk HV4 rfl) (And.intro (ldTape_blk HT4 rfl) (Blk.cell HO4 0)))
  have S5 := Lib.hid (And.intro (ldRv_blk HV5 rfl) (And.intro (ldTape_blk HT5 rfl) (Blk.cell HO5 0)))
  have S6 := Lib.hid (And.intro (ldRv_blk HV6 rfl) (And.intro (ldTape_blk HT6 rfl) (Blk.cell HO6 0)))
  clear HV4 HT4 HX4 HZ4 HO4 HK4 hB5 hK5 HV5 HT5 HO5 hB6 hK6 HV6 HT6 HO6
  go_region_held3 (fun w' => (ldRv ⟨w.heap.size, 0, none⟩).run Try.prog w' = .ok (.agg (rvA c who seq x.held x.stale)) w' ∧ (ldTape ⟨w.heap.size + 1, 0, none⟩).run Try.prog w' = .ok (.agg (tpA (.slice A m cp) r.1)) w' ∧ w'.cell? ⟨w1.heap.size, 0, none⟩ = some (.int .u64 r.2.val))
        (first | exact S6.out | exact S5.out | exact S4.out) (fail)
  go_wp2_with fail
  exact bodyPost_ret (v := rdV c who seq (.slice A m cp) (x, r.1, 0, 0)) (results_cctt (r := 8) (r2 := 9) _ _ (w.heap.size + 1 + 1) 34 (rvA c who seq x.held x.stale) (0, 0) _ rfl HB5.out Try.underlying34 rfl (by kernel_rfl) (w.heap.size + 1 + 1 + 1) 47 (tpA (.slice A m cp) r.1) (0, 0) _ rfl HB6.out Try.underlying47 rfl (by kernel_rfl) rfl) rfl ⟨by rw [HE.out], HK6.out⟩
set_option maxRecDepth 100000 in
set_option maxHeartbeats 2000000 in
theorem rload_late {w : World} {A : Option Addr} {m cp : Nat} {L : List OutD} (hL : L.length = m) (hm : m ≤ maxLen) (hs : SlAt w A 3 (L.map OutD.cells)) (c : CfgD) (who seq : Int) (x : XvD) (t : TpD) (p : Int)
    (h : (ldP L t p).1.need = false) (h2 : seq < (ldP L t p).2.seq) :
    Calls Try.prog 88 #[.agg (rvA c who seq x.held x.stale), .agg (tpA (.slice A m cp) t), .int .i64 p] w fun e w' => e = .returned (rdV c who seq (.slice A m cp) (loadR L seq x t p)) ∧ Kept (fun _ => False) w w' := by
  have HS := Lib.hid hs
  have HL := Lib.hid hL
  have HM := Lib.hid hm
  have HV0 : Hid (Blk ((((w.alloc (.cells (rvA c who seq x.held x.stale) 34)).alloc (.cells (tpA (.slice A m cp) t) 47)).alloc (.cells rv0 34)).alloc (.cells tp0 47)) w.heap.size 34 (rvA c who seq x.held x.stale)) := Lib.hid ((((Blk.new _ _ _).alloc _).alloc _).alloc _)
  have HT0 : Hid (Blk ((((w.alloc (.cells (rvA c who seq x.held x.stale) 34)).alloc (.cells (tpA (.slice A m cp) t) 47)).alloc (.cells rv0 34)).alloc (.cells tp0 47)) (w.heap.size + 1) 47 (tpA (.slice A m cp) t)) := Lib.hid (((Blk.new' _ _ _ _ (by simp)).alloc _).alloc _)
  have HX0 : Hid (Blk ((((w.alloc (.cells (rvA c who seq x.held x.stale) 34)).alloc (.cells (tpA (.slice A m cp) t) 47)).alloc (.cells rv0 34)).alloc (.cells tp0 47)) (w.heap.size + 1 + 1) 34 rv0) := Lib.hid ((Blk.new' _ _ _ _ (by simp)).alloc _)
  have HZ0 : Hid (Blk ((((w.alloc (.cells (rvA c who seq x.held x.stale) 34)).alloc (.cells (tpA (.slice A m cp) t) 47)).alloc (.cells rv0 34)).alloc (.cells tp0 47)) (w.heap.size + 1 + 1 + 1) 47 tp0) := Lib.hid (Blk.new' _ _ _ _ (by simp))
  have HK0 : Hid (Kept (fun _ => False) w ((((w.alloc (.cells (rvA c who seq x.held x.stale) 34)).alloc (.cells (tpA (.slice A m cp) t) 47)).alloc (.cells rv0 34)).alloc (.cells tp0 47))) := Lib.hid (((((Kept.refl _ _).alloc _).alloc _).alloc _).alloc _)
  have hl0 := ldTape_blk HT0.out rfl
  unfold tp0 rv0 at hl0
  clear hs hL hm
  have HR : Hid (∃ r, r = ldP L t p ∧ r.1.need = false ∧ seq < r.2.seq) := Lib.hid ⟨_, rfl, h, h2⟩
  clear h h2
  go_enter Try.func88, Try.ntmps88
  go_wp2_with (go_at_call 67; ((refine (loadA HL.out HM.out (HS.out.kept HK0.out) t _).mono ?_); rintro e w1 ⟨rfl, hk1⟩; (
    obtain ⟨r, hr, hc⟩ := HR.out
    rw [← hr]
    have hE : loadR L seq x t p = ldR L seq x r := by unfold loadR; rw [hr]
    have hE : loadR L seq x t p = ({ x with stale := true }, r.1, 0, 2) := by rw [hE]; unfold ldR; rw [if_neg (by simp [hc.1]), if_pos hc.2]
    have HE := Lib.hid hE
    clear hr hE
    have hz : w.heap.size + 4 ≤ w1.heap.size := by have := HZ0.out.lt; have := hk1.size; omega
    have HV1 := (hk1.blk HV0.out (fun h => h)).alloc (.cells #[.int .u64 0, .int .u64 0] 41)
    have HT1 := (hk1.blk HT0.out (fun h => h)).alloc (.cells #[.int .u64 0, .int .u64 0] 41)
    have HX1 := (hk1.blk HX0.out (fun h => h)).alloc (.cells #[.int .u64 0, .int .u64 0] 41)
    have HZ1 := (hk1.blk HZ0.out (fun h => h)).alloc (.cells #[.int .u64 0, .int .u64 0] 41)
    have HO1 : Blk (w1.alloc (.cells #[.int .u64 0, .int .u64 0] 41)) w1.heap.size 41 #[.int .u64 0, .int .u64 0] := Blk.new _ _ _
    have HK1 := (HK0.out.trans hk1).alloc (.cells #[.int .u64 0, .int .u64 0] 41)
    obtain ⟨w2, hst2, hB2, hK2⟩ := stV_blk (ty := 47) (cells := tpA (.slice A m cp) r.1) HT1 (by kernel_rfl) rfl (tpA_one _ _ rfl)
    obtain ⟨w3, hst3, hB3, hK3⟩ := stV_blk (ty := 41) (cells := cellA r.2.val r.2.seq) (hK2.blk HO1 (by omega)) (by kernel_rfl) rfl (cellA_one _ _)
    have HV3 := Lib.hid (hK3.blk (hK2.blk HV1 (by omega)) (by omega))
    have HT3 := Lib.hid (hK3.blk hB2 (by omega))
    have HX3 := Lib.hid (hK3.blk (hK2.blk HX1 (by omega)) (by omega))
    have HZ3 := Lib.hid (hK3.blk (hK2.blk HZ1 (by omega)) (by omega))
    have HO3 := Lib.hid hB3
    have HK3 := Lib.hid (Kept.fresh9 (Kept.fresh9 HK1 hK2 (by omega)) hK3 (by omega))
    have Hz := Lib.hid hz
    have n0 : w3.cell? ⟨w.heap.size + 1, 8, none⟩ = some (.bool r.1.need) := Blk.cell HT3.out 8
    have n1 : w3.cell? ⟨w1.heap.size, 1, none⟩ = some (.int .u64 r.2.seq) := Blk.cell HO3.out 1
    have n2 : w3.cell? ⟨w.heap.size, 7, none⟩ = some (.int .u64 seq) := Blk.cell HV3.out 7
    have n3 := Blk.frozen HV3.out 9
    have n4 : w3.cell? ⟨w.heap.size, 9, none⟩ = some (.bool x.stale) := Blk.cell HV3.out 9
    rw [hc.1] at n0; replace hc := hc.2
    clear hk1 HV1 HT1 HX1 HZ1 HO1 HK1 hB2 hK2 hB3 hK3 hz hl0)))
  skip
  have HV4 : Blk (w3.setCell ⟨w.heap.size, 9, none⟩ (.bool true)).drew w.heap.size 34 (rvA c who seq x.held true) := ((HV3.out).set_ 9 _).drew
  have HT4 : Blk (w3.setCell ⟨w.heap.size, 9, none⟩ (.bool true)).drew (w.heap.size + 1) 47 (tpA (.slice A m cp) r.1) := ((HT3.out).far (by dsimp only; omega) _).drew
  have HX4 : Blk (w3.setCell ⟨w.heap.size, 9, none⟩ (.bool true)).drew (w.heap.size + 1 + 1) 34 rv0 := ((HX3.out).far (by dsimp only; omega) _).drew
  have HZ4 : Blk (w3.setCell ⟨w.heap.size, 9, none⟩ (.bool true)).drew (w.heap.size + 1 + 1 + 1) 47 tp0 := ((HZ3.out).far (by dsimp only; omega) _).drew
  have HO4 : Blk (w3.setCell ⟨w.heap.size, 9, none⟩ (.bool true)).drew w1.heap.size 41 (cellA r.2.val r.2.seq) := ((HO3.out).far (by have := Hz.out; dsimp only; omega) _).drew
  have HK4 : Kept (fun _ => False) w (w3.setCell ⟨w.heap.size, 9, none⟩ (.bool true)).drew := ((HK3.out).setCell (p := ⟨w.heap.size, 9, none⟩) (.inr (Nat.le_refl _)) _).drew
  obtain ⟨w5, hst5, hB5, hK5⟩ := stV_blk (ty := 34) (cells := (rvA c who seq x.held true)) HX4 (by kernel_rfl) rfl (rvA_one _ _ _ _ _)
  have HV5 := hK5.blk HV4 (by omega)
  have HT5 := hK5.blk HT4 (by omega)
  have HO5 := hK5.blk HO4 (by have := Hz.out; omega)
  obtain ⟨w6, hst6, hB6, hK6⟩ := stV_blk (ty := 47) (cells := tpA (.slice A m cp) r.1) (hK5.blk HZ4 (by omega)) (by kernel_rfl) rfl (tpA_one _ _ rfl)
  have HV6 := hK6.blk HV5 (by omega)
  have HT6 := hK6.blk HT5 (by omega)
  have HO6 := hK6.blk HO5 (by have := Hz.out; omega)
  have HB5 := Lib.hid (hK6.blk hB5 (by omega))
  have HB6 := Lib.hid hB6
  have HK6 := Lib.hid (Kept.fresh9 (Kept.fresh9 HK4 hK5 (by omega)) hK6 (by omega))
  have S4 := Lib.hid (And.intro (ldRv_blk HV4 rfl) (And.intro (ldTape_blk HT4 rfl) (Blk.cell HO4 0)))
  have S5 := Lib.hid (And.intro (ldRv_blk HV5 rfl) (And.intro (ldTape_blk HT5 rfl) (Blk.cell HO5 0)))
  have S6 := Lib.hid (And.intro (ldRv_blk HV6 rfl) (And.intro (ldTape_blk HT6 rfl) (Blk.cell HO6 0)))
  clear HV4 HT4 HX4 HZ4 HO4 HK4 hB5 hK5 HV5 HT5 HO5 hB6 hK6 HV6 HT6 HO6
  go_region_held3 (fun w' => (ldRv ⟨w.heap.size, 0, none⟩).run Try.prog w' = .ok (.agg (rvA c who seq x.held true)) w' ∧ (ldTape ⟨w.heap.size + 1, 0, none⟩).run Try.prog w' = .ok (.agg (tpA (.slice A m cp) r.1)) w' ∧ w'.cell? ⟨w1.heap.size, 0, none⟩ = some (.int .u64 r.2.val))
        (first | exact S6.out | exact S5.out | exact S4.out) (fail)
  go_wp2_with fail
  exact bodyPost_ret (v := rdV c who seq (.slice A m cp) ({ x with stale := true }, r.1, 0, 2)) (results_cctt (r := 8) (r2 := 9) _ _ (w.heap.size + 1 + 1) 34 (rvA c who seq x.held true) (0, 0) _ rfl HB5.out Try.underlying34 rfl (by kernel_rfl) (w.heap.size + 1 + 1 + 1) 47 (tpA (.slice A m cp) r.1) (0, 0) _ rfl HB6.out Try.underlying47 rfl (by kernel_rfl) rfl) rfl ⟨by rw [HE.out], HK6.out⟩
set_option maxRecDepth 100000 in
set_option maxHeartbeats 2000000 in
theorem rload_good {w : World} {A : Option Addr} {m cp : Nat} {L : List OutD} (hL : L.length = m) (hm : m ≤ maxLen) (hs : SlAt w A 3 (L.map OutD.cells)) (c : CfgD) (who seq : Int) (x : XvD) (t : TpD) (p : Int)
    (h : (ldP L t p).1.need = false) (h2 : ¬ seq < (ldP L t p).2.seq) :
    Calls Try.prog 88 #[.agg (rvA c who seq x.held x.stale), .agg (tpA (.slice A m cp) t), .int .i64 p] w fun e w' => e = .returned (rdV c who seq (.slice A m cp) (loadR L seq x t p)) ∧ Kept (fun _ => False) w w' := by
  have HS := Lib.hid hs
  have HL := Lib.hid hL
  have HM := Lib.hid hm
  have HV0 : Hid (Blk ((((w.alloc (.cells (rvA c who seq x.held x.stale) 34)).alloc (.cells (tpA (.slice A m cp) t) 47)).alloc (.cells rv0 34)).alloc (.cells tp0 47)) w.heap.size 34 (rvA c who seq x.held x.stale)) := Lib.hid ((((Blk.new _ _ _).alloc _).alloc _).alloc _)
  have HT0 : Hid (Blk ((((w.alloc (.cells (rvA c who seq x.held x.stale) 34)).alloc (.cells (tpA (.slice A m cp) t) 47)).alloc (.cells rv0 34)).alloc (.cells tp0 47)) (w.heap.size + 1) 47 (tpA (.slice A m cp) t)) := Lib.hid (((Blk.new' _ _ _ _ (by simp)).alloc _).alloc _)
  have HX0 : Hid (Blk ((((w.alloc (.cells (rvA c who seq x.held x.stale) 34)).alloc (.cells (tpA (.slice A m cp) t) 47)).alloc (.cells rv0 34)).alloc (.cells tp0 47)) (w.heap.size + 1 + 1) 34 rv0) := Lib.hid ((Blk.new' _ _ _ _ (by simp)).alloc _)
  have HZ0 : Hid (Blk ((((w.alloc (.cells (rvA c who seq x.held x.stale) 34)).alloc (.cells (tpA (.slice A m cp) t) 47)).alloc (.cells rv0 34)).alloc (.cells tp0 47)) (w.heap.size + 1 + 1 + 1) 47 tp0) := Lib.hid (Blk.new' _ _ _ _ (by simp))
  have HK0 : Hid (Kept (fun _ => False) w ((((w.alloc (.cells (rvA c who seq x.held x.stale) 34)).alloc (.cells (tpA (.slice A m cp) t) 47)).alloc (.cells rv0 34)).alloc (.cells tp0 47))) := Lib.hid (((((Kept.refl _ _).alloc _).alloc _).alloc _).alloc _)
  have hl0 := ldTape_blk HT0.out rfl
  unfold tp0 rv0 at hl0
  clear hs hL hm
  have HR : Hid (∃ r, r = ldP L t p ∧ r.1.need = false ∧ ¬ seq < r.2.seq) := Lib.hid ⟨_, rfl, h, h2⟩
  clear h h2
  go_enter Try.func88, Try.ntmps88
  go_wp2_with (go_at_call 67; ((refine (loadA HL.out HM.out (HS.out.kept HK0.out) t _).mono ?_); rintro e w1 ⟨rfl, hk1⟩; (
    obtain ⟨r, hr, hc⟩ := HR.out
    rw [← hr]
    have hE : loadR L seq x t p = ldR L seq x r := by unfold loadR; rw [hr]
    have hE : loadR L seq x t p = (x, r.1, r.2.val, 1) := by rw [hE]; unfold ldR; rw [if_neg (by simp [hc.1]), if_neg hc.2]
    have HE := Lib.hid hE
    clear hr hE
    have hz : w.heap.size + 4 ≤ w1.heap.size := by have := HZ0.out.lt; have := hk1.size; omega
    have HV1 := (hk1.blk HV0.out (fun h => h)).alloc (.cells #[.int .u64 0, .int .u64 0] 41)
    have HT1 := (hk1.blk HT0.out (fun h => h)).alloc (.cells #[.int .u64 0, .int .u64 0] 41)
    have HX1 := (hk1.blk HX0.out (fun h => h)).alloc (.cells #[.int .u64 0, .int .u64 0] 41)
    have HZ1 := (hk1.blk HZ0.out (fun h => h)).alloc (.cells #[.int .u64 0, .int .u64 0] 41)
    have HO1 : Blk (w1.alloc (.cells #[.int .u64 0, .int .u64 0] 41)) w1.heap.size 41 #[.int .u64 0, .int .u64 0] := Blk.new _ _ _
    have HK1 := (HK0.out.trans hk1).alloc (.cells #[.int .u64 0, .int .u64 0] 41)
    obtain ⟨w2, hst2, hB2, hK2⟩ := stV_blk (ty := 47) (cells := tpA (.slice A m cp) r.1) HT1 (by kernel_rfl) rfl (tpA_one _ _ rfl)
    obtain ⟨w3, hst3, hB3, hK3⟩ := stV_blk (ty := 41) (cells := cellA r.2.val r.2.seq) (hK2.blk HO1 (by omega)) (by kernel_rfl) rfl (cellA_one _ _)
    have HV3 := Lib.hid (hK3.blk (hK2.blk HV1 (by omega)) (by omega))
    have HT3 := Lib.hid (hK3.blk hB2 (by omega))
    have HX3 := Lib.hid (hK3.blk (hK2.blk HX1 (by omega)) (by omega))
    have HZ3 := Lib.hid (hK3.blk (hK2.blk HZ1 (by omega)) (by omega))
    have HO3 := Lib.hid hB3
    have HK3 := Lib.hid (Kept.fresh9 (Kept.fresh9 HK1 hK2 (by omega)) hK3 (by omega))
    have Hz := Lib.hid hz
    have n0 : w3.cell? ⟨w.heap.size + 1, 8, none⟩ = some (.bool r.1.need) := Blk.cell HT3.out 8
    have n1 : w3.cell? ⟨w1.heap.size, 1, none⟩ = some (.int .u64 r.2.seq) := Blk.cell HO3.out 1
    have n2 : w3.cell? ⟨w.heap.size, 7, none⟩ = some (.int .u64 seq) := Blk.cell HV3.out 7
    have n3 := Blk.frozen HV3.out 9
    have n4 : w3.cell? ⟨w.heap.size, 9, none⟩ = some (.bool x.stale) := Blk.cell HV3.out 9
    rw [hc.1] at n0; replace hc := hc.2
    clear hk1 HV1 HT1 HX1 HZ1 HO1 HK1 hB2 hK2 hB3 hK3 hz hl0)))
  skip
  have HV4 : Blk w3.drew w.heap.size 34 (rvA c who seq x.held x.stale) := (HV3.out).drew
  have HT4 : Blk w3.drew (w.heap.size + 1) 47 (tpA (.slice A m cp) r.1) := (HT3.out).drew
  have HX4 : Blk w3.drew (w.heap.size + 1 + 1) 34 rv0 := (HX3.out).drew
  have HZ4 : Blk w3.drew (w.heap.size + 1 + 1 + 1) 47 tp0 := (HZ3.out).drew
  have HO4 : Blk w3.drew w1.heap.size 41 (cellA r.2.val r.2.seq) := (HO3.out).drew
  have HK4 : Kept (fun _ => False) w w3.drew := (HK3.out).drew
  obtain ⟨w5, hst5, hB5, hK5⟩ := stV_blk (ty := 34) (cells := (rvA c who seq x.held x.stale)) HX4 (by kernel_rfl) rfl (rvA_one _ _ _ _ _)
  have HV5 := hK5.blk HV4 (by omega)
  have HT5 := hK5.blk HT4 (by omega)
  have HO5 := hK5.blk HO4 (by have := Hz.out; omega)
  obtain ⟨w6, hst6, hB6, hK6⟩ := stV_blk (ty := 47) (cells := tpA (.slice A m cp) r.1) (hK5.blk HZ4 (by omega)) (by kernel_rfl) rfl (tpA_one _ _ rfl)
  have HV6 := hK6.blk HV5 (by omega)
  have HT6 := hK6.blk HT5 (by omega)
  have HO6 := hK6.blk HO5 (by have := Hz.out; omega)
  have HB5 := Lib.hid (hK6.blk hB5 (by omega))
  have HB6 := Lib.hid hB6
  have HK6 := Lib.hid (Kept.fresh9 (Kept.fresh9 HK4 hK5 (by omega)) hK6 (by omega))
  have S4 := Lib.hid (And.intro (ldRv_blk HV4 rfl) (And.intro (ldTape_blk HT4 rfl) (Blk.cell HO4 0)))
  have S5 := Lib.hid (And.intro (ldRv_blk HV5 rfl) (And.intro (ldTape_blk HT5 rfl) (Blk.cell HO5 0)))
  have S6 := Lib.hid (And.intro (ldRv_blk HV6 rfl) (And.intro (ldTape_blk HT6 rfl) (Blk.cell HO6 0)))
  clear HV4 HT4 HX4 HZ4 HO4 HK4 hB5 hK5 HV5 HT5 HO5 hB6 hK6 HV6 HT6 HO6
  go_region_held3 (fun w' => (ldRv ⟨w.heap.size, 0, none⟩).run Try.prog w' = .ok (.agg (rvA c who seq x.held x.stale)) w' ∧ (ldTape ⟨w.heap.size + 1, 0, none⟩).run Try.prog w' = .ok (.agg (tpA (.slice A m cp) r.1)) w' ∧ w'.cell? ⟨w1.heap.size, 0, none⟩ = some (.int .u64 r.2.val))
        (first | exact S6.out | exact S5.out | exact S4.out) (fail)
  go_wp2_with fail
  exact bodyPost_ret (v := rdV c who seq (.slice A m cp) (x, r.1, r.2.val, 1)) (results_cctt (r := 8) (r2 := 9) _ _ (w.heap.size + 1 + 1) 34 (rvA c who seq x.held x.stale) (0, 0) _ rfl HB5.out Try.underlying34 rfl (by kernel_rfl) (w.heap.size + 1 + 1 + 1) 47 (tpA (.slice A m cp) r.1) (0, 0) _ rfl HB6.out Try.underlying47 rfl (by kernel_rfl) rfl) rfl ⟨by rw [HE.out], HK6.out⟩
theorem rload_calls {w : World} {A : Option Addr} {m cp : Nat} {L : List OutD} (hL : L.length = m) (hm : m ≤ maxLen) (hs : SlAt w A 3 (L.map OutD.cells)) (c : CfgD) (who seq : Int) (x : XvD) (t : TpD) (p : Int) :
    Calls Try.prog 88 #[.agg (rvA c who seq x.held x.stale), .agg (tpA (.slice A m cp) t), .int .i64 p] w fun e w' => e = .returned (rdV c who seq (.slice A m cp) (loadR L seq x t p)) ∧ Kept (fun _ => False) w w' := by
  by_cases h : (ldP L t p).1.need = true
  · exact rload_ask hL hm hs c who seq x t p h
  · by_cases h2 : seq < (ldP L t p).2.seq
    · exact rload_late hL hm hs c who seq x t p (by simpa using h) h2
    · exact rload_good hL hm hs c who seq x t p (by simpa using h) h2
end Go.Proofs.Ythjkodjpopcjaaa
