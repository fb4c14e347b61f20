/- Layer 10 (pool): Ask, Top, there, Back. -/
/- Layer 10 (pool): Top, there, Back. -/
import Derived.Test.YthjkodjpopcjaaaPoB
import Derived.Test.YthjkodjpopcjaaaVwP
namespace Go.Proofs.Ythjkodjpopcjaaa
open Go.RowKit Go.Maps
theorem stOp_eq (a : Addr) (v : Value) : storeVar 43 a v = stV 43 a v := rfl
attribute [local go_sem ↓] loadMap_eq stOp_eq

theorem atK_calls (c : CfgD) (h : c.Bd) (kind i k : Int) (w : World) : Calls Try.prog 49 #[.agg (mapA c), .int .i64 kind, .int .i64 i, .int .i64 k] w fun e w' => e = .returned (.int .i64 (c.at_ kind i k)) ∧ Kept (fun _ => False) w w' := at_calls c h kind i k w
def kindOf (s : Int) : Int := if s = 0 then 3 else if s = 1 then 12 else if s = 2 then 14 else 15
def PoD.ask (c : CfgD) (p : PoD) : StpD × Bool := if p.st ≠ 0 then (noOp, false) else (ldOp (c.at_ (kindOf p.stage) p.pos 0), true)
def opA (o : StpD) : Array Value := #[.int .i64 o.kind, .int .i64 o.pos, .int .u64 o.ov, .int .u64 o.os, .int .u64 o.nv, .int .u64 o.ns]
def op0A : Array Value := #[.int .i64 0, .int .i64 0, .int .u64 0, .int .u64 0, .int .u64 0, .int .u64 0]
def knA : Array Value := #[.int .i64 3, .int .i64 12, .int .i64 14, .int .i64 15]
section
variable {w : World} {B mb : Nat} {lv : Value} {c : CfgD} {p : PoD} {n : Nat}
set_option maxRecDepth 100000 in
set_option maxHeartbeats 1000000 in
theorem askP_0 (h : PoS w B mb lv c p n) (hc : c.Bd) (h0 : p.st = 0) (hs : p.stage = 0) :
    Calls Try.prog 21 #[.pointer (some ⟨B, 0, none⟩)] w fun e w' => e = .returned (.tuple #[.agg (opA (ldOp (c.at_ 3 p.pos 0))), .bool true]) ∧ Kept (fun _ => False) w w' := by
  have hB : B < w.heap.size := h.blk.lt
  have h1 := h.keep ((Kept.refl _ w).alloc (.cells op0A 43))
  have h2 := h.keep ((((Kept.refl _ w).alloc (.cells op0A 43)).alloc (.cells knA 131)))
  have a4 := h1.cells.st
  rw [h0] at a4
  have hR : Blk ((w.alloc (.cells op0A 43)).alloc (.cells knA 131)).drew w.heap.size 43 op0A := ((Blk.new _ _ _).alloc _).drew
  have hN : Blk ((w.alloc (.cells op0A 43)).alloc (.cells knA 131)).drew (w.heap.size + 1) 131 knA := (Blk.new' _ _ _ _ (by simp)).drew
  have HR := Lib.hid hR
  have HN := Lib.hid hN
  have H2 := Lib.hid (h2.drewN 1)
  have HK : Hid (Kept (fun _ => False) w ((w.alloc (.cells op0A 43)).alloc (.cells knA 131)).drew) := Lib.hid (((Kept.refl _ w).alloc _).alloc _).drew
  have S0 : (loadMap ⟨B, 0, none⟩).run Try.prog ((w.alloc (.cells op0A 43)).alloc (.cells knA 131)).drew = .ok (.agg (mapA c)) ((w.alloc (.cells op0A 43)).alloc (.cells knA 131)).drew ∧ ((w.alloc (.cells op0A 43)).alloc (.cells knA 131)).drew.cell? ⟨B, 24, none⟩ = some (.int .i64 0) ∧ ((w.alloc (.cells op0A 43)).alloc (.cells knA 131)).drew.cell? ⟨B, 25, none⟩ = some (.int .i64 p.pos) ∧ ((w.alloc (.cells op0A 43)).alloc (.cells knA 131)).drew.cell? ⟨w.heap.size + 1, 0, none⟩ = some (.int .i64 3) :=
    ⟨H2.out.ldm, by rw [← hs]; exact H2.out.cells.stage, H2.out.cells.pos, hN.cell 0⟩
  unfold op0A knA at S0
  have S0 := Lib.hid S0
  have HC := Lib.hid hc
  have HS := Lib.hid hs
  have HF : Hid (¬ PF B mb lv w.heap.size) := Lib.hid (fun hx => by have := h.lt hx; omega)
  unfold op0A at a4
  clear h h1 h2 hR hN h0 hs hc
  go_enter Try.func21, Try.ntmps21
  go_wp2_with fail
  go_region_held3 (fun w' => (loadMap ⟨B, 0, none⟩).run Try.prog w' = .ok (.agg (mapA c)) w' ∧ w'.cell? ⟨B, 24, none⟩ = some (.int .i64 0) ∧ w'.cell? ⟨B, 25, none⟩ = some (.int .i64 p.pos) ∧ w'.cell? ⟨w.heap.size + 1, 0, none⟩ = some (.int .i64 3))
    (with_reducible (first | exact S2.out | exact S1.out | exact S0.out))
    ((go_at_call 49; (with_reducible refine (atK_calls c HC.out _ _ _ _).mono ?_); rintro e w1 ⟨rfl, hk⟩; (
      have h1 := H2.out.keep hk
      have hN1 := hk.blk HN.out (fun h => h)
      have S1 : Hid ((loadMap ⟨B, 0, none⟩).run Try.prog w1 = .ok (.agg (mapA c)) w1 ∧ w1.cell? ⟨B, 24, none⟩ = some (.int .i64 0) ∧ w1.cell? ⟨B, 25, none⟩ = some (.int .i64 p.pos) ∧ w1.cell? ⟨w.heap.size + 1, 0, none⟩ = some (.int .i64 3)) := Lib.hid ⟨h1.ldm, by rw [← HS.out]; exact h1.cells.stage, h1.cells.pos, hN1.cell 0⟩
      obtain ⟨w2, hst2, hB2, hK2⟩ := stV_blk (ty := 43) (cells := opA (ldOp (c.at_ 3 p.pos 0))) (hk.blk HR.out (fun h => h)) (by kernel_rfl) rfl (by simp [opA, Value.oneCell'])
      have h2 := h1.kept hK2 (fun x hx e => by have := H2.out.lt hx; have := h1.lt hx; subst e; exact absurd hx (HF.out))
      have hN2 := hK2.blk hN1 (by omega)
      have S2 : Hid ((loadMap ⟨B, 0, none⟩).run Try.prog w2 = .ok (.agg (mapA c)) w2 ∧ w2.cell? ⟨B, 24, none⟩ = some (.int .i64 0) ∧ w2.cell? ⟨B, 25, none⟩ = some (.int .i64 p.pos) ∧ w2.cell? ⟨w.heap.size + 1, 0, none⟩ = some (.int .i64 3)) := Lib.hid ⟨h2.ldm, by rw [← HS.out]; exact h2.cells.stage, h2.cells.pos, hN2.cell 0⟩
      have HB2 := Lib.hid hB2
      have HK2 := Lib.hid (Kept.fresh9 (HK.out.trans hk) hK2 (Nat.le_refl _))
      unfold opA ldOp at hst2
      clear hk h1 hN1 h2 hN2 hB2 hK2)))
  go_wp2_with fail
  exact bodyPost_ret (v := .tuple #[.agg (opA (ldOp (c.at_ 3 p.pos 0))), .bool true]) (results_cell_slot (q := 3) rfl _ _ w.heap.size 43 _ (0, 0) _ rfl HB2.out Try.underlying43 rfl (by kernel_rfl)) rfl ⟨rfl, HK2.out⟩
set_option maxRecDepth 100000 in
set_option maxHeartbeats 1000000 in
theorem askP_1 (h : PoS w B mb lv c p n) (hc : c.Bd) (h0 : p.st = 0) (hs : p.stage = 1) :
    Calls Try.prog 21 #[.pointer (some ⟨B, 0, none⟩)] w fun e w' => e = .returned (.tuple #[.agg (opA (ldOp (c.at_ 12 p.pos 0))), .bool true]) ∧ Kept (fun _ => False) w w' := by
  have hB : B < w.heap.size := h.blk.lt
  have h1 := h.keep ((Kept.refl _ w).alloc (.cells op0A 43))
  have h2 := h.keep ((((Kept.refl _ w).alloc (.cells op0A 43)).alloc (.cells knA 131)))
  have a4 := h1.cells.st
  rw [h0] at a4
  have hR : Blk ((w.alloc (.cells op0A 43)).alloc (.cells knA 131)).drew w.heap.size 43 op0A := ((Blk.new _ _ _).alloc _).drew
  have hN : Blk ((w.alloc (.cells op0A 43)).alloc (.cells knA 131)).drew (w.heap.size + 1) 131 knA := (Blk.new' _ _ _ _ (by simp)).drew
  have HR := Lib.hid hR
  have HN := Lib.hid hN
  have H2 := Lib.hid (h2.drewN 1)
  have HK : Hid (Kept (fun _ => False) w ((w.alloc (.cells op0A 43)).alloc (.cells knA 131)).drew) := Lib.hid (((Kept.refl _ w).alloc _).alloc _).drew
  have S0 : (loadMap ⟨B, 0, none⟩).run Try.prog ((w.alloc (.cells op0A 43)).alloc (.cells knA 131)).drew = .ok (.agg (mapA c)) ((w.alloc (.cells op0A 43)).alloc (.cells knA 131)).drew ∧ ((w.alloc (.cells op0A 43)).alloc (.cells knA 131)).drew.cell? ⟨B, 24, none⟩ = some (.int .i64 1) ∧ ((w.alloc (.cells op0A 43)).alloc (.cells knA 131)).drew.cell? ⟨B, 25, none⟩ = some (.int .i64 p.pos) ∧ ((w.alloc (.cells op0A 43)).alloc (.cells knA 131)).drew.cell? ⟨w.heap.size + 1, 1, none⟩ = some (.int .i64 12) :=
    ⟨H2.out.ldm, by rw [← hs]; exact H2.out.cells.stage, H2.out.cells.pos, hN.cell 1⟩
  unfold op0A knA at S0
  have S0 := Lib.hid S0
  have HC := Lib.hid hc
  have HS := Lib.hid hs
  have HF : Hid (¬ PF B mb lv w.heap.size) := Lib.hid (fun hx => by have := h.lt hx; omega)
  unfold op0A at a4
  clear h h1 h2 hR hN h0 hs hc
  go_enter Try.func21, Try.ntmps21
  go_wp2_with fail
  go_region_held3 (fun w' => (loadMap ⟨B, 0, none⟩).run Try.prog w' = .ok (.agg (mapA c)) w' ∧ w'.cell? ⟨B, 24, none⟩ = some (.int .i64 1) ∧ w'.cell? ⟨B, 25, none⟩ = some (.int .i64 p.pos) ∧ w'.cell? ⟨w.heap.size + 1, 1, none⟩ = some (.int .i64 12))
    (with_reducible (first | exact S2.out | exact S1.out | exact S0.out))
    ((go_at_call 49; (with_reducible refine (atK_calls c HC.out _ _ _ _).mono ?_); rintro e w1 ⟨rfl, hk⟩; (
      have h1 := H2.out.keep hk
      have hN1 := hk.blk HN.out (fun h => h)
      have S1 : Hid ((loadMap ⟨B, 0, none⟩).run Try.prog w1 = .ok (.agg (mapA c)) w1 ∧ w1.cell? ⟨B, 24, none⟩ = some (.int .i64 1) ∧ w1.cell? ⟨B, 25, none⟩ = some (.int .i64 p.pos) ∧ w1.cell? ⟨w.heap.size + 1, 1, none⟩ = some (.int .i64 12)) := Lib.hid ⟨h1.ldm, by rw [← HS.out]; exact h1.cells.stage, h1.cells.pos, hN1.cell 1⟩
      obtain ⟨w2, hst2, hB2, hK2⟩ := stV_blk (ty := 43) (cells := opA (ldOp (c.at_ 12 p.pos 0))) (hk.blk HR.out (fun h => h)) (by kernel_rfl) rfl (by simp [opA, Value.oneCell'])
      have h2 := h1.kept hK2 (fun x hx e => by have := H2.out.lt hx; have := h1.lt hx; subst e; exact absurd hx (HF.out))
      have hN2 := hK2.blk hN1 (by omega)
      have S2 : Hid ((loadMap ⟨B, 0, none⟩).run Try.prog w2 = .ok (.agg (mapA c)) w2 ∧ w2.cell? ⟨B, 24, none⟩ = some (.int .i64 1) ∧ w2.cell? ⟨B, 25, none⟩ = some (.int .i64 p.pos) ∧ w2.cell? ⟨w.heap.size + 1, 1, none⟩ = some (.int .i64 12)) := Lib.hid ⟨h2.ldm, by rw [← HS.out]; exact h2.cells.stage, h2.cells.pos, hN2.cell 1⟩
      have HB2 := Lib.hid hB2
      have HK2 := Lib.hid (Kept.fresh9 (HK.out.trans hk) hK2 (Nat.le_refl _))
      unfold opA ldOp at hst2
      clear hk h1 hN1 h2 hN2 hB2 hK2)))
  go_wp2_with fail
  exact bodyPost_ret (v := .tuple #[.agg (opA (ldOp (c.at_ 12 p.pos 0))), .bool true]) (results_cell_slot (q := 3) rfl _ _ w.heap.size 43 _ (0, 0) _ rfl HB2.out Try.underlying43 rfl (by kernel_rfl)) rfl ⟨rfl, HK2.out⟩
set_option maxRecDepth 100000 in
set_option maxHeartbeats 1000000 in
theorem askP_2 (h : PoS w B mb lv c p n) (hc : c.Bd) (h0 : p.st = 0) (hs : p.stage = 2) :
    Calls Try.prog 21 #[.pointer (some ⟨B, 0, none⟩)] w fun e w' => e = .returned (.tuple #[.agg (opA (ldOp (c.at_ 14 p.pos 0))), .bool true]) ∧ Kept (fun _ => False) w w' := by
  have hB : B < w.heap.size := h.blk.lt
  have h1 := h.keep ((Kept.refl _ w).alloc (.cells op0A 43))
  have h2 := h.keep ((((Kept.refl _ w).alloc (.cells op0A 43)).alloc (.cells knA 131)))
  have a4 := h1.cells.st
  rw [h0] at a4
  have hR : Blk ((w.alloc (.cells op0A 43)).alloc (.cells knA 131)).drew w.heap.size 43 op0A := ((Blk.new _ _ _).alloc _).drew
  have hN : Blk ((w.alloc (.cells op0A 43)).alloc (.cells knA 131)).drew (w.heap.size + 1) 131 knA := (Blk.new' _ _ _ _ (by simp)).drew
  have HR := Lib.hid hR
  have HN := Lib.hid hN
  have H2 := Lib.hid (h2.drewN 1)
  have HK : Hid (Kept (fun _ => False) w ((w.alloc (.cells op0A 43)).alloc (.cells knA 131)).drew) := Lib.hid (((Kept.refl _ w).alloc _).alloc _).drew
  have S0 : (loadMap ⟨B, 0, none⟩).run Try.prog ((w.alloc (.cells op0A 43)).alloc (.cells knA 131)).drew = .ok (.agg (mapA c)) ((w.alloc (.cells op0A 43)).alloc (.cells knA 131)).drew ∧ ((w.alloc (.cells op0A 43)).alloc (.cells knA 131)).drew.cell? ⟨B, 24, none⟩ = some (.int .i64 2) ∧ ((w.alloc (.cells op0A 43)).alloc (.cells knA 131)).drew.cell? ⟨B, 25, none⟩ = some (.int .i64 p.pos) ∧ ((w.alloc (.cells op0A 43)).alloc (.cells knA 131)).drew.cell? ⟨w.heap.size + 1, 2, none⟩ = some (.int .i64 14) :=
    ⟨H2.out.ldm, by rw [← hs]; exact H2.out.cells.stage, H2.out.cells.pos, hN.cell 2⟩
  unfold op0A knA at S0
  have S0 := Lib.hid S0
  have HC := Lib.hid hc
  have HS := Lib.hid hs
  have HF : Hid (¬ PF B mb lv w.heap.size) := Lib.hid (fun hx => by have := h.lt hx; omega)
  unfold op0A at a4
  clear h h1 h2 hR hN h0 hs hc
  go_enter Try.func21, Try.ntmps21
  go_wp2_with fail
  go_region_held3 (fun w' => (loadMap ⟨B, 0, none⟩).run Try.prog w' = .ok (.agg (mapA c)) w' ∧ w'.cell? ⟨B, 24, none⟩ = some (.int .i64 2) ∧ w'.cell? ⟨B, 25, none⟩ = some (.int .i64 p.pos) ∧ w'.cell? ⟨w.heap.size + 1, 2, none⟩ = some (.int .i64 14))
    (with_reducible (first | exact S2.out | exact S1.out | exact S0.out))
    ((go_at_call 49; (with_reducible refine (atK_calls c HC.out _ _ _ _).mono ?_); rintro e w1 ⟨rfl, hk⟩; (
      have h1 := H2.out.keep hk
      have hN1 := hk.blk HN.out (fun h => h)
      have S1 : Hid ((loadMap ⟨B, 0, none⟩).run Try.prog w1 = .ok (.agg (mapA c)) w1 ∧ w1.cell? ⟨B, 24, none⟩ = some (.int .i64 2) ∧ w1.cell? ⟨B, 25, none⟩ = some (.int .i64 p.pos) ∧ w1.cell? ⟨w.heap.size + 1, 2, none⟩ = some (.int .i64 14)) := Lib.hid ⟨h1.ldm, by rw [← HS.out]; exact h1.cells.stage, h1.cells.pos, hN1.cell 2⟩
      obtain ⟨w2, hst2, hB2, hK2⟩ := stV_blk (ty := 43) (cells := opA (ldOp (c.at_ 14 p.pos 0))) (hk.blk HR.out (fun h => h)) (by kernel_rfl) rfl (by simp [opA, Value.oneCell'])
      have h2 := h1.kept hK2 (fun x hx e => by have := H2.out.lt hx; have := h1.lt hx; subst e; exact absurd hx (HF.out))
      have hN2 := hK2.blk hN1 (by omega)
      have S2 : Hid ((loadMap ⟨B, 0, none⟩).run Try.prog w2 = .ok (.agg (mapA c)) w2 ∧ w2.cell? ⟨B, 24, none⟩ = some (.int .i64 2) ∧ w2.cell? ⟨B, 25, none⟩ = some (.int .i64 p.pos) ∧ w2.cell? ⟨w.heap.size + 1, 2, none⟩ = some (.int .i64 14)) := Lib.hid ⟨h2.ldm, by rw [← HS.out]; exact h2.cells.stage, h2.cells.pos, hN2.cell 2⟩
      have HB2 := Lib.hid hB2
      have HK2 := Lib.hid (Kept.fresh9 (HK.out.trans hk) hK2 (Nat.le_refl _))
      unfold opA ldOp at hst2
      clear hk h1 hN1 h2 hN2 hB2 hK2)))
  go_wp2_with fail
  exact bodyPost_ret (v := .tuple #[.agg (opA (ldOp (c.at_ 14 p.pos 0))), .bool true]) (results_cell_slot (q := 3) rfl _ _ w.heap.size 43 _ (0, 0) _ rfl HB2.out Try.underlying43 rfl (by kernel_rfl)) rfl ⟨rfl, HK2.out⟩
set_option maxRecDepth 100000 in
set_option maxHeartbeats 1000000 in
theorem askP_3 (h : PoS w B mb lv c p n) (hc : c.Bd) (h0 : p.st = 0) (hs : p.stage = 3) :
    Calls Try.prog 21 #[.pointer (some ⟨B, 0, none⟩)] w fun e w' => e = .returned (.tuple #[.agg (opA (ldOp (c.at_ 15 p.pos 0))), .bool true]) ∧ Kept (fun _ => False) w w' := by
  have hB : B < w.heap.size := h.blk.lt
  have h1 := h.keep ((Kept.refl _ w).alloc (.cells op0A 43))
  have h2 := h.keep ((((Kept.refl _ w).alloc (.cells op0A 43)).alloc (.cells knA 131)))
  have a4 := h1.cells.st
  rw [h0] at a4
  have hR : Blk ((w.alloc (.cells op0A 43)).alloc (.cells knA 131)).drew w.heap.size 43 op0A := ((Blk.new _ _ _).alloc _).drew
  have hN : Blk ((w.alloc (.cells op0A 43)).alloc (.cells knA 131)).drew (w.heap.size + 1) 131 knA := (Blk.new' _ _ _ _ (by simp)).drew
  have HR := Lib.hid hR
  have HN := Lib.hid hN
  have H2 := Lib.hid (h2.drewN 1)
  have HK : Hid (Kept (fun _ => False) w ((w.alloc (.cells op0A 43)).alloc (.cells knA 131)).drew) := Lib.hid (((Kept.refl _ w).alloc _).alloc _).drew
  have S0 : (loadMap ⟨B, 0, none⟩).run Try.prog ((w.alloc (.cells op0A 43)).alloc (.cells knA 131)).drew = .ok (.agg (mapA c)) ((w.alloc (.cells op0A 43)).alloc (.cells knA 131)).drew ∧ ((w.alloc (.cells op0A 43)).alloc (.cells knA 131)).drew.cell? ⟨B, 24, none⟩ = some (.int .i64 3) ∧ ((w.alloc (.cells op0A 43)).alloc (.cells knA 131)).drew.cell? ⟨B, 25, none⟩ = some (.int .i64 p.pos) ∧ ((w.alloc (.cells op0A 43)).alloc (.cells knA 131)).drew.cell? ⟨w.heap.size + 1, 3, none⟩ = some (.int .i64 15) :=
    ⟨H2.out.ldm, by rw [← hs]; exact H2.out.cells.stage, H2.out.cells.pos, hN.cell 3⟩
  unfold op0A knA at S0
  have S0 := Lib.hid S0
  have HC := Lib.hid hc
  have HS := Lib.hid hs
  have HF : Hid (¬ PF B mb lv w.heap.size) := Lib.hid (fun hx => by have := h.lt hx; omega)
  unfold op0A at a4
  clear h h1 h2 hR hN h0 hs hc
  go_enter Try.func21, Try.ntmps21
  go_wp2_with fail
  go_region_held3 (fun w' => (loadMap ⟨B, 0, none⟩).run Try.prog w' = .ok (.agg (mapA c)) w' ∧ w'.cell? ⟨B, 24, none⟩ = some (.int .i64 3) ∧ w'.cell? ⟨B, 25, none⟩ = some (.int .i64 p.pos) ∧ w'.cell? ⟨w.heap.size + 1, 3, none⟩ = some (.int .i64 15))
    (with_reducible (first | exact S2.out | exact S1.out | exact S0.out))
    ((go_at_call 49; (with_reducible refine (atK_calls c HC.out _ _ _ _).mono ?_); rintro e w1 ⟨rfl, hk⟩; (
      have h1 := H2.out.keep hk
      have hN1 := hk.blk HN.out (fun h => h)
      have S1 : Hid ((loadMap ⟨B, 0, none⟩).run Try.prog w1 = .ok (.agg (mapA c)) w1 ∧ w1.cell? ⟨B, 24, none⟩ = some (.int .i64 3) ∧ w1.cell? ⟨B, 25, none⟩ = some (.int .i64 p.pos) ∧ w1.cell? ⟨w.heap.size + 1, 3, none⟩ = some (.int .i64 15)) := Lib.hid ⟨h1.ldm, by rw [← HS.out]; exact h1.cells.stage, h1.cells.pos, hN1.cell 3⟩
      obtain ⟨w2, hst2, hB2, hK2⟩ := stV_blk (ty := 43) (cells := opA (ldOp (c.at_ 15 p.pos 0))) (hk.blk HR.out (fun h => h)) (by kernel_rfl) rfl (by simp [opA, Value.oneCell'])
      have h2 := h1.kept hK2 (fun x hx e => by have := H2.out.lt hx; have := h1.lt hx; subst e; exact absurd hx (HF.out))
      have hN2 := hK2.blk hN1 (by omega)
      have S2 : Hid ((loadMap ⟨B, 0, none⟩).run Try.prog w2 = .ok (.agg (mapA c)) w2 ∧ w2.cell? ⟨B, 24, none⟩ = some (.int .i64 3) ∧ w2.cell? ⟨B, 25, none⟩ = some (.int .i64 p.pos) ∧ w2.cell? ⟨w.heap.size + 1, 3, none⟩ = some (.int .i64 15)) := Lib.hid ⟨h2.ldm, by rw [← HS.out]; exact h2.cells.stage, h2.cells.pos, hN2.cell 3⟩
      have HB2 := Lib.hid hB2
      have HK2 := Lib.hid (Kept.fresh9 (HK.out.trans hk) hK2 (Nat.le_refl _))
      unfold opA ldOp at hst2
      clear hk h1 hN1 h2 hN2 hB2 hK2)))
  go_wp2_with fail
  exact bodyPost_ret (v := .tuple #[.agg (opA (ldOp (c.at_ 15 p.pos 0))), .bool true]) (results_cell_slot (q := 3) rfl _ _ w.heap.size 43 _ (0, 0) _ rfl HB2.out Try.underlying43 rfl (by kernel_rfl)) rfl ⟨rfl, HK2.out⟩
set_option maxRecDepth 100000 in
set_option maxHeartbeats 1000000 in
theorem askP_no (h : PoS w B mb lv c p n) (h0 : p.st ≠ 0) :
    Calls Try.prog 21 #[.pointer (some ⟨B, 0, none⟩)] w fun e w' => e = .returned (.tuple #[.agg (opA noOp), .bool false]) ∧ Kept (fun _ => False) w w' := by
  have h1 := h.keep ((Kept.refl _ w).alloc (.cells op0A 43))
  have a4 := h1.cells.st
  have h0' : (p.st == 0) = false := by simpa using h0
  have hR : Blk (w.alloc (.cells op0A 43)) w.heap.size 43 op0A := Blk.new _ _ _
  obtain ⟨w2, hst2, hB2, hK2⟩ := stV_blk (ty := 43) (cells := opA noOp) hR (by kernel_rfl) rfl (by simp [opA, Value.oneCell'])
  have HB2 := Lib.hid hB2
  have HK2 := Lib.hid (Kept.fresh9 ((Kept.refl _ w).alloc (.cells op0A 43)) hK2 (Nat.le_refl _))
  unfold op0A at a4 hst2
  unfold opA noOp at hst2
  clear h h1 h0 hR hB2 hK2
  go_enter Try.func21, Try.ntmps21
  go_wp2_with fail
  exact bodyPost_ret (v := .tuple #[.agg (opA noOp), .bool false]) (results_cell_slot (q := 3) rfl _ _ w.heap.size 43 _ (0, 0) _ rfl HB2.out Try.underlying43 rfl (by kernel_rfl)) rfl ⟨rfl, HK2.out⟩
theorem askP_calls (h : PoS w B mb lv c p n) (hc : c.Bd) (hs : p.st = 0 → 0 ≤ p.stage ∧ p.stage ≤ 3) :
    Calls Try.prog 21 #[.pointer (some ⟨B, 0, none⟩)] w fun e w' => e = .returned (.tuple #[.agg (opA (p.ask c).1), .bool (p.ask c).2]) ∧ Kept (fun _ => False) w w' := by
  by_cases h0 : p.st = 0
  · have e : p.ask c = (ldOp (c.at_ (kindOf p.stage) p.pos 0), true) := by unfold PoD.ask; rw [if_neg (by simp [h0])]
    rw [e]
    have := hs h0
    obtain h1 | h1 | h1 | h1 : p.stage = 0 ∨ p.stage = 1 ∨ p.stage = 2 ∨ p.stage = 3 := by omega
    all_goals rw [h1]
    · exact askP_0 h hc h0 h1
    · exact askP_1 h hc h0 h1
    · exact askP_2 h hc h0 h1
    · exact askP_3 h hc h0 h1
  · have e : p.ask c = (noOp, false) := by unfold PoD.ask; rw [if_pos h0]
    rw [e]
    exact askP_no h h0
end
end Go.Proofs.Ythjkodjpopcjaaa

namespace Go.Proofs.Ythjkodjpopcjaaa
open Go.RowKit Go.Maps
attribute [local go_sem ↓] loadMap_eq

def PoD.top (c : CfgD) (p : PoD) : Int × Bool := if p.nt = 0 then (-1, false) else (c.at_ 13 (p.nt - 1) 0, true)
section
variable {w : World} {B mb : Nat} {lv : Value} {c : CfgD} {p : PoD} {n : Nat}
set_option maxRecDepth 100000 in
set_option maxHeartbeats 1000000 in
theorem topP_calls (h : PoS w B mb lv c p n) (hc : c.Bd) (hn : 0 ≤ p.nt ∧ p.nt ≤ 100000) :
    Calls Try.prog 39 #[.pointer (some ⟨B, 0, none⟩)] w fun e w' => e = .returned (.tuple #[.int .i64 (p.top c).1, .bool (p.top c).2]) ∧ Kept (fun _ => False) w w' := by
  have c1 := h.cells.nt
  have H1 := Lib.hid (h.drewN 1)
  have HC := Lib.hid hc
  have S0 : Hid ((loadMap ⟨B, 0, none⟩).run Try.prog w.drew = .ok (.agg (mapA c)) w.drew ∧ w.drew.cell? ⟨B, 32, none⟩ = some (.int .i64 p.nt)) := Lib.hid ⟨H1.out.ldm, H1.out.cells.nt⟩
  have e1 : IntKind.i64.wrap (p.nt - 1) = p.nt - 1 := IntWalk.i64_in _ (by omega)
  clear h hc
  by_cases h0 : p.nt = 0
  · have HE : Hid (p.top c = (-1, false)) := Lib.hid (by unfold PoD.top; rw [if_pos h0])
    rw [h0] at c1
    clear h0
    go_enter Try.func39, Try.ntmps39
    go_wp2_with fail
    go_ret2
    exact ⟨by rw [HE.out]; rfl, Kept.refl _ _⟩
  · have HE : Hid (p.top c = (c.at_ 13 (p.nt - 1) 0, true)) := Lib.hid (by unfold PoD.top; rw [if_neg h0])
    have h0' : (p.nt == 0) = false := by simpa using h0
    clear h0
    go_enter Try.func39, Try.ntmps39
    go_wp2_with fail
    go_region_held3 (fun w' => (loadMap ⟨B, 0, none⟩).run Try.prog w' = .ok (.agg (mapA c)) w' ∧ w'.cell? ⟨B, 32, none⟩ = some (.int .i64 p.nt))
      (with_reducible (first | exact S1.out | exact S0.out))
      ((go_at_call 49; (with_reducible refine (atK_calls c HC.out _ _ _ _).mono ?_); rintro e w1 ⟨rfl, hk⟩; (have h1 := H1.out.keep hk; have S1 : Hid ((loadMap ⟨B, 0, none⟩).run Try.prog w1 = .ok (.agg (mapA c)) w1 ∧ w1.cell? ⟨B, 32, none⟩ = some (.int .i64 p.nt)) := Lib.hid ⟨h1.ldm, h1.cells.nt⟩; have HK1 := Lib.hid hk; clear hk h1)))
    go_wp2_with fail
    go_ret2
    exact ⟨by rw [HE.out]; rfl, ((Kept.refl _ _).drew).trans HK1.out⟩
set_option maxRecDepth 100000 in
set_option maxHeartbeats 1000000 in
theorem thereP_calls (h : PoS w B mb lv c p n) (b : Int) :
    Calls Try.prog 76 #[.pointer (some ⟨B, 0, none⟩), .int .i64 b] w fun e w' => e = .returned (.bool (decide (0 ≤ b ∧ b < c.b))) ∧ Kept (fun _ => False) w w' := by
  have hl := h.ldm
  have hf := fld_cfg_b c
  clear h
  by_cases h0 : 0 ≤ b
  · have hd0 : decide (0 ≤ b) = true := decide_eq_true h0
    have HE : Hid (decide (0 ≤ b ∧ b < c.b) = decide (b < c.b)) := Lib.hid (by simp [h0])
    clear h0
    go_enter Try.func76, Try.ntmps76
    go_wp2_with (go_at_call 70; ((with_reducible refine (cfgK_calls c _).mono ?_); rintro e w2 ⟨rfl, hk⟩; have HK := Lib.hid hk; clear hk))
    go_ret
    exact ⟨by rw [HE.out]; rfl, HK.out⟩
  · have hd0 : decide (0 ≤ b) = false := decide_eq_false h0
    have HE : Hid (decide (0 ≤ b ∧ b < c.b) = false) := Lib.hid (by simp [h0])
    clear h0
    go_enter Try.func76, Try.ntmps76
    go_wp2_with fail
    go_ret
    exact ⟨by rw [HE.out]; rfl, Kept.refl _ _⟩
set_option maxRecDepth 100000 in
set_option maxHeartbeats 1000000 in
theorem backP_calls (h : PoS w B mb lv c p n) (hc : c.Bd) (kt kl : Int) :
    Calls Try.prog 36 #[.pointer (some ⟨B, 0, none⟩), .agg #[.int .i64 kt, .int .i64 kl]] w fun e w' => e = .returned (.tuple #[]) ∧ PoS w' B mb lv c { p with nt := min (max kt 0) c.b, nl := min (max kl 0) c.lim } n ∧ Kept (fun x => x = B) w w' := by
  have hB : B ≠ w.heap.size := by have := h.blk.lt; omega
  have h1 := (h.keep ((Kept.refl _ w).alloc (.cells #[.int .i64 kt, .int .i64 kl] 83))).drewN 1
  have hM : Blk (w.alloc (.cells #[.int .i64 kt, .int .i64 kl] 83)).drew w.heap.size 83 #[.int .i64 kt, .int .i64 kl] := (Blk.new _ _ _).drew
  have H1 := Lib.hid h1
  have HM := Lib.hid hM
  have HC := Lib.hid hc
  have HB := Lib.hid hB
  have hf := fld_cfg_b c
  have S0 : Hid ((loadMap ⟨B, 0, none⟩).run Try.prog (w.alloc (.cells #[.int .i64 kt, .int .i64 kl] 83)).drew = .ok (.agg (mapA c)) (w.alloc (.cells #[.int .i64 kt, .int .i64 kl] 83)).drew ∧ (w.alloc (.cells #[.int .i64 kt, .int .i64 kl] 83)).drew.cell? ⟨w.heap.size, 0, none⟩ = some (.int .i64 kt)) := Lib.hid ⟨h1.ldm, hM.cell 0⟩
  clear h h1 hM hc hB
  go_enter Try.func36, Try.ntmps36
  go_wp2_with fail
  go_region_held3 (fun w' => (loadMap ⟨B, 0, none⟩).run Try.prog w' = .ok (.agg (mapA c)) w' ∧ w'.cell? ⟨w.heap.size, 0, none⟩ = some (.int .i64 kt))
    (with_reducible (first | exact S2.out | exact S1.out | exact S0.out))
    ((go_at_call 70; (with_reducible refine (cfgK_calls c _).mono ?_); rintro e w1 ⟨rfl, hk⟩; (
      have h1 := H1.out.keep hk
      have hM1 := hk.blk HM.out (fun h => h)
      have h2 := h1.fld 32 (.int .i64 (min (max kt 0) c.b)) (p' := { p with nt := min (max kt 0) c.b }) rfl rfl rfl
      have hM2 := hM1.far (p := ⟨B, 32, none⟩) HB.out.symm (.int .i64 (min (max kt 0) c.b))
      have S2 : Hid ((loadMap ⟨B, 0, none⟩).run Try.prog (w1.setCell ⟨B, 32, none⟩ (.int .i64 (min (max kt 0) c.b))) = .ok (.agg (mapA c)) (w1.setCell ⟨B, 32, none⟩ (.int .i64 (min (max kt 0) c.b))) ∧ (w1.setCell ⟨B, 32, none⟩ (.int .i64 (min (max kt 0) c.b))).cell? ⟨w.heap.size, 0, none⟩ = some (.int .i64 kt)) := Lib.hid ⟨h2.ldm, hM2.cell 0⟩
      have S1 : Hid ((loadMap ⟨B, 0, none⟩).run Try.prog w1 = .ok (.agg (mapA c)) w1 ∧ w1.cell? ⟨w.heap.size, 0, none⟩ = some (.int .i64 kt)) := Lib.hid ⟨h1.ldm, hM1.cell 0⟩
      have b1 := h1.cells.nt
      have g1 := Blk.frozen h1.blk 32
      have H2 := Lib.hid h2
      have HM2 := Lib.hid hM2
      have HK1 := Lib.hid hk
      clear hk h1 hM1 h2 hM2)))
  all_goals
    go_wp2_with fail
    have T0 : Hid ((loadMap ⟨B, 0, none⟩).run Try.prog (w1.setCell ⟨B, 32, none⟩ (.int .i64 (min (max kt 0) c.b))).drew = .ok (.agg (mapA c)) (w1.setCell ⟨B, 32, none⟩ (.int .i64 (min (max kt 0) c.b))).drew ∧ (w1.setCell ⟨B, 32, none⟩ (.int .i64 (min (max kt 0) c.b))).drew.cell? ⟨w.heap.size, 1, none⟩ = some (.int .i64 kl)) := Lib.hid ⟨(H2.out.drewN 1).ldm, HM2.out.drew.cell 1⟩
    go_region_held3 (fun w' => (loadMap ⟨B, 0, none⟩).run Try.prog w' = .ok (.agg (mapA c)) w' ∧ w'.cell? ⟨w.heap.size, 1, none⟩ = some (.int .i64 kl))
      (with_reducible (first | exact T2.out | exact T1.out | exact T0.out))
      ((go_at_call 50; (with_reducible refine (limK_calls c HC.out _).mono ?_); rintro e w3 ⟨rfl, hk⟩; (
        have h1 := (H2.out.drewN 1).keep hk
        have hM1 := hk.blk HM2.out.drew (fun h => h)
        have h2 := h1.fld 33 (.int .i64 (min (max kl 0) c.lim)) (p' := { p with nt := min (max kt 0) c.b, nl := min (max kl 0) c.lim }) rfl rfl rfl
        have hM2 := hM1.far (p := ⟨B, 33, none⟩) HB.out.symm (.int .i64 (min (max kl 0) c.lim))
        have T2 : Hid ((loadMap ⟨B, 0, none⟩).run Try.prog (w3.setCell ⟨B, 33, none⟩ (.int .i64 (min (max kl 0) c.lim))) = .ok (.agg (mapA c)) (w3.setCell ⟨B, 33, none⟩ (.int .i64 (min (max kl 0) c.lim))) ∧ (w3.setCell ⟨B, 33, none⟩ (.int .i64 (min (max kl 0) c.lim))).cell? ⟨w.heap.size, 1, none⟩ = some (.int .i64 kl)) := Lib.hid ⟨h2.ldm, hM2.cell 1⟩
        have T1 : Hid ((loadMap ⟨B, 0, none⟩).run Try.prog w3 = .ok (.agg (mapA c)) w3 ∧ w3.cell? ⟨w.heap.size, 1, none⟩ = some (.int .i64 kl)) := Lib.hid ⟨h1.ldm, hM1.cell 1⟩
        have b1' := h1.cells.nl
        have g1' := Blk.frozen h1.blk 33
        have H4 := Lib.hid h2
        have HK3 := Lib.hid hk
        clear hk h1 hM1 h2 hM2)))
    all_goals (
     go_wp2_with fail
     go_end0
     exact ⟨rfl, H4.out, (((((((Kept.refl (fun x => x = B) w).alloc _).drew).trans (HK1.out.mono (fun _ _ h => h.elim))).setAt _).drew).trans (HK3.out.mono (fun _ _ h => h.elim))).setAt _⟩)
end
end Go.Proofs.Ythjkodjpopcjaaa
