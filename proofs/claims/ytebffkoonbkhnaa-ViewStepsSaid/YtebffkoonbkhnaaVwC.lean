/- Layer 9 (view): Ask, Cell, Word, Live. -/
import Derived.Test.YtebffkoonbkhnaaVwB
namespace Go.Proofs.Ytebffkoonbkhnaa
open Go.RowKit
attribute [local go_sem ↓] loadMap_eq

/-- A step, as data. -/
structure StpD where
  kind : Int
  pos : Int
  ov : Int
  os : Int
  nv : Int
  ns : Int
deriving DecidableEq
def stpV (o : StpD) : Value := .agg #[.int .i64 o.kind, .int .i64 o.pos, .int .u64 o.ov, .int .u64 o.os, .int .u64 o.nv, .int .u64 o.ns]
def noOp : StpD := ⟨0, 0, 0, 0, 0, 0⟩
def ldOp (p : Int) : StpD := ⟨0, p, 0, 0, 0, 0⟩
/-- The step that a view asks for. -/
def VwD.ask (c : CfgD) (v : VwD) : StpD × Bool :=
  if v.st ≠ 0 then (noOp, false) else if v.next = 0 then (⟨1, c.at_ 3 v.who 0, 0, 0, v.block + 1, 0⟩, true)
  else if v.next = 1 then (ldOp (c.at_ 11 v.block 0), true) else (ldOp v.pos, true)
def askV (a : StpD × Bool) : Value := .tuple #[stpV a.1, .bool a.2]

theorem VwS.three {w : World} {B : Nat} {c : CfgD} {v : VwD} (h : VwS w B c v) : (loadMap ⟨B, 0, none⟩).run Try.prog w = .ok (.agg (mapA c)) w ∧ w.cell? ⟨B, 23, none⟩ = some (.int .i64 v.who) ∧ w.cell? ⟨B, 26, none⟩ = some (.int .i64 v.block) := ⟨h.map, h.cells.who, h.cells.block⟩
theorem VwS.six {w : World} {B g : Nat} {c : CfgD} {v : VwD} (h : VwS w B c v) (hn : B ≠ g) (u0 u1 u2 u3 u4 u5 : Value) :
    VwS ((((((w.setCell ⟨g, 0, none⟩ u0).setCell ⟨g, 1, none⟩ u1).setCell ⟨g, 2, none⟩ u2).setCell ⟨g, 3, none⟩ u3).setCell ⟨g, 4, none⟩ u4).setCell ⟨g, 5, none⟩ u5) B c v :=
  (((((Blk.far h hn u0).far hn u1).far hn u2).far hn u3).far hn u4).far hn u5
theorem Blk.six {w : World} {g : Nat} {t : TypeId} {a0 a1 a2 a3 a4 a5 : Value} (h : Blk w g t #[a0, a1, a2, a3, a4, a5]) (u0 u1 u2 u3 u4 u5 : Value) :
    Blk ((((((w.setCell ⟨g, 0, none⟩ u0).setCell ⟨g, 1, none⟩ u1).setCell ⟨g, 2, none⟩ u2).setCell ⟨g, 3, none⟩ u3).setCell ⟨g, 4, none⟩ u4).setCell ⟨g, 5, none⟩ u5) g t #[u0, u1, u2, u3, u4, u5] :=
  (((((h.set_ 0 u0).set_ 1 u1).set_ 2 u2).set_ 3 u3).set_ 4 u4).set_ 5 u5
theorem Kept.six {S : Nat → Prop} {a w : World} {g : Nat} (h : Kept S a w) (hg : a.heap.size ≤ g) (u0 u1 u2 u3 u4 u5 : Value) :
    Kept S a ((((((w.setCell ⟨g, 0, none⟩ u0).setCell ⟨g, 1, none⟩ u1).setCell ⟨g, 2, none⟩ u2).setCell ⟨g, 3, none⟩ u3).setCell ⟨g, 4, none⟩ u4).setCell ⟨g, 5, none⟩ u5) :=
  (((((h.setCell (p := ⟨g, 0, none⟩) (.inr hg) u0).setCell (p := ⟨g, 1, none⟩) (.inr hg) u1).setCell (p := ⟨g, 2, none⟩) (.inr hg) u2).setCell (p := ⟨g, 3, none⟩) (.inr hg) u3).setCell (p := ⟨g, 4, none⟩) (.inr hg) u4).setCell (p := ⟨g, 5, none⟩) (.inr hg) u5

set_option maxRecDepth 100000 in
set_option maxHeartbeats 2000000 in
theorem vwAsk_calls {w : World} {B : Nat} {c : CfgD} {v : VwD} (h : VwS w B c v) (hc : c.Bd) (hb : v.st = 0 → v.next = 0 → 0 ≤ v.block ∧ v.block < 64) :
    Calls Try.prog 17 #[.pointer (some ⟨B, 0, none⟩)] w fun e w' => e = .returned (askV (v.ask c)) ∧ Kept (fun _ => False) w w' := by
  have hA : VwS (w.alloc (.cells #[.int .i64 0, .int .i64 0, .int .u64 0, .int .u64 0, .int .u64 0, .int .u64 0] 43)) B c v := Blk.alloc h _
  obtain ⟨c1, c2, c3, c4, c5, c6, c7, c8⟩ := hA.cells
  have hl := hA.map
  have HH := Lib.hid hA
  have HC := Lib.hid hc
  have HR : Hid (Blk (w.alloc (.cells #[.int .i64 0, .int .i64 0, .int .u64 0, .int .u64 0, .int .u64 0, .int .u64 0] 43)) w.heap.size 43 #[.int .i64 0, .int .i64 0, .int .u64 0, .int .u64 0, .int .u64 0, .int .u64 0]) := Lib.hid (Blk.new _ _ _)
  have HN : Hid (B ≠ w.heap.size) := Lib.hid (by have := Blk.lt h; omega)
  have S0 : Hid ((loadMap ⟨B, 0, none⟩).run Try.prog (w.alloc (.cells #[.int .i64 0, .int .i64 0, .int .u64 0, .int .u64 0, .int .u64 0, .int .u64 0] 43)).drew = .ok (.agg (mapA c)) (w.alloc (.cells #[.int .i64 0, .int .i64 0, .int .u64 0, .int .u64 0, .int .u64 0, .int .u64 0] 43)).drew ∧ (w.alloc (.cells #[.int .i64 0, .int .i64 0, .int .u64 0, .int .u64 0, .int .u64 0, .int .u64 0] 43)).drew.cell? ⟨B, 23, none⟩ = some (.int .i64 v.who) ∧ (w.alloc (.cells #[.int .i64 0, .int .i64 0, .int .u64 0, .int .u64 0, .int .u64 0, .int .u64 0] 43)).drew.cell? ⟨B, 26, none⟩ = some (.int .i64 v.block)) := Lib.hid ⟨VwS.map (Blk.drew HH.out), VwC.who (VwS.cells (Blk.drew HH.out)), VwC.block (VwS.cells (Blk.drew HH.out))⟩
  clear h hA hc
  by_cases h0 : v.st = 0
  · rw [h0] at c8
    by_cases hn : v.next = 0
    · have HE : Hid (v.ask c = (⟨1, c.at_ 3 v.who 0, 0, 0, v.block + 1, 0⟩, true)) := Lib.hid (by unfold VwD.ask; rw [if_neg (by simp [h0]), if_pos hn])
      obtain ⟨b0, b1⟩ := hb h0 hn
      rw [hn] at c6
      clear h0 hn hb
      go_enter Try.func17, Try.ntmps17
      go_wp2_with fail
      go_region_held3 (fun w' => (loadMap ⟨B, 0, none⟩).run Try.prog w' = .ok (.agg (mapA c)) w' ∧ w'.cell? ⟨B, 23, none⟩ = some (.int .i64 v.who) ∧ w'.cell? ⟨B, 26, none⟩ = some (.int .i64 v.block))
          (with_reducible (first | exact VwS.three (VwS.six H1.out HN.out _ _ _ _ _ _) | exact S1.out | exact S0.out))
          ((go_at_call 54; (refine (at_calls c HC.out _ _ _ _).mono ?_); rintro e w1 ⟨rfl, hk⟩; have hB1 : VwS w1 B c v := hk.blk (Blk.drew HH.out) (fun h => h); have H1 := Lib.hid hB1; have S1 : Hid ((loadMap ⟨B, 0, none⟩).run Try.prog w1 = .ok (.agg (mapA c)) w1 ∧ w1.cell? ⟨B, 23, none⟩ = some (.int .i64 v.who) ∧ w1.cell? ⟨B, 26, none⟩ = some (.int .i64 v.block)) := Lib.hid ⟨hB1.map, hB1.cells.who, hB1.cells.block⟩; have hR1 : Blk w1 w.heap.size 43 #[.int .i64 0, .int .i64 0, .int .u64 0, .int .u64 0, .int .u64 0, .int .u64 0] := hk.blk HR.out.drew (fun h => h); have r0 : w1.cell? ⟨w.heap.size, 0, none⟩ = some (.int .i64 0) := hR1.cell 0; have z0 := hR1.frozen 0; have r1 : w1.cell? ⟨w.heap.size, 1, none⟩ = some (.int .i64 0) := hR1.cell 1; have z1 := hR1.frozen 1; have r2 : w1.cell? ⟨w.heap.size, 2, none⟩ = some (.int .u64 0) := hR1.cell 2; have z2 := hR1.frozen 2; have r3 : w1.cell? ⟨w.heap.size, 3, none⟩ = some (.int .u64 0) := hR1.cell 3; have z3 := hR1.frozen 3; have r4 : w1.cell? ⟨w.heap.size, 4, none⟩ = some (.int .u64 0) := hR1.cell 4; have z4 := hR1.frozen 4; have r5 : w1.cell? ⟨w.heap.size, 5, none⟩ = some (.int .u64 0) := hR1.cell 5; have z5 := hR1.frozen 5))
      go_wp2_with fail
      have e1 : IntKind.u64.wrap v.block = v.block := IntWalk.u64_in _ (by omega)
      have e2 : IntKind.u64.wrap (v.block + 1) = v.block + 1 := IntWalk.u64_in _ (by omega)
      exact bodyPost_ret (v := askV (⟨1, c.at_ 3 v.who 0, 0, 0, IntKind.u64.wrap (IntKind.u64.wrap v.block + 1), 0⟩, true)) (results_cell_slot (q := 3) rfl _ _ w.heap.size 43 _ (0, 0) _ rfl (Blk.six hR1 _ _ _ _ _ _) Try.underlying43 rfl (by kernel_rfl)) rfl ⟨by rw [HE.out, e1, e2], Kept.six (((Kept.refl _ w).alloc _).drew.trans hk) (Nat.le_refl _) _ _ _ _ _ _⟩
    · have hn' : (v.next == 0) = false := by simpa using hn
      by_cases h1 : v.next = 1
      · have HE : Hid (v.ask c = (ldOp (c.at_ 11 v.block 0), true)) := Lib.hid (by unfold VwD.ask; rw [if_neg (by simp [h0]), if_neg hn, if_pos h1])
        rw [h1] at c6
        clear h0 hn hb h1
        go_enter Try.func17, Try.ntmps17
        go_wp2_with fail
        go_region_held3 (fun w' => (loadMap ⟨B, 0, none⟩).run Try.prog w' = .ok (.agg (mapA c)) w' ∧ w'.cell? ⟨B, 23, none⟩ = some (.int .i64 v.who) ∧ w'.cell? ⟨B, 26, none⟩ = some (.int .i64 v.block))
          (with_reducible (first | exact VwS.three (VwS.six H1.out HN.out _ _ _ _ _ _) | exact S1.out | exact S0.out))
          ((go_at_call 54; (refine (at_calls c HC.out _ _ _ _).mono ?_); rintro e w1 ⟨rfl, hk⟩; have hB1 : VwS w1 B c v := hk.blk (Blk.drew HH.out) (fun h => h); have H1 := Lib.hid hB1; have S1 : Hid ((loadMap ⟨B, 0, none⟩).run Try.prog w1 = .ok (.agg (mapA c)) w1 ∧ w1.cell? ⟨B, 23, none⟩ = some (.int .i64 v.who) ∧ w1.cell? ⟨B, 26, none⟩ = some (.int .i64 v.block)) := Lib.hid ⟨hB1.map, hB1.cells.who, hB1.cells.block⟩; have hR1 : Blk w1 w.heap.size 43 #[.int .i64 0, .int .i64 0, .int .u64 0, .int .u64 0, .int .u64 0, .int .u64 0] := hk.blk HR.out.drew (fun h => h); have r0 : w1.cell? ⟨w.heap.size, 0, none⟩ = some (.int .i64 0) := hR1.cell 0; have z0 := hR1.frozen 0; have r1 : w1.cell? ⟨w.heap.size, 1, none⟩ = some (.int .i64 0) := hR1.cell 1; have z1 := hR1.frozen 1; have r2 : w1.cell? ⟨w.heap.size, 2, none⟩ = some (.int .u64 0) := hR1.cell 2; have z2 := hR1.frozen 2; have r3 : w1.cell? ⟨w.heap.size, 3, none⟩ = some (.int .u64 0) := hR1.cell 3; have z3 := hR1.frozen 3; have r4 : w1.cell? ⟨w.heap.size, 4, none⟩ = some (.int .u64 0) := hR1.cell 4; have z4 := hR1.frozen 4; have r5 : w1.cell? ⟨w.heap.size, 5, none⟩ = some (.int .u64 0) := hR1.cell 5; have z5 := hR1.frozen 5))
        go_wp2_with fail
        exact bodyPost_ret (v := askV _) (results_cell_slot (q := 3) rfl _ _ w.heap.size 43 _ (0, 0) _ rfl (Blk.six hR1 _ _ _ _ _ _) Try.underlying43 rfl (by kernel_rfl)) rfl ⟨by rw [HE.out], Kept.six (((Kept.refl _ w).alloc _).drew.trans hk) (Nat.le_refl _) _ _ _ _ _ _⟩
      · have HE : Hid (v.ask c = (ldOp v.pos, true)) := Lib.hid (by unfold VwD.ask; rw [if_neg (by simp [h0]), if_neg hn, if_neg h1])
        have h1' : (v.next == 1) = false := by simpa using h1
        clear h0 hn hb h1
        go_enter Try.func17, Try.ntmps17
        go_wp2_with fail
        exact bodyPost_ret (v := askV _) (results_cell_slot (q := 3) rfl _ _ w.heap.size 43 #[.int .i64 0, .int .i64 v.pos, .int .u64 0, .int .u64 0, .int .u64 0, .int .u64 0] (0, 0) _ rfl (Blk.new _ _ _) Try.underlying43 rfl (by kernel_rfl)) rfl ⟨by rw [HE.out], (Kept.refl _ _).alloc _⟩
  · have HE : Hid (v.ask c = (noOp, false)) := Lib.hid (by unfold VwD.ask; rw [if_pos h0])
    have h0' : (v.st == 0) = false := by simpa using h0
    clear h0
    go_enter Try.func17, Try.ntmps17
    go_wp2_with fail
    exact bodyPost_ret (v := askV _) (results_cell_slot (q := 3) rfl _ _ w.heap.size 43 #[.int .i64 0, .int .i64 0, .int .u64 0, .int .u64 0, .int .u64 0, .int .u64 0] (0, 0) _ rfl (Blk.new _ _ _) Try.underlying43 rfl (by kernel_rfl)) rfl ⟨by rw [HE.out], (Kept.refl _ _).alloc _⟩

def VwD.cell (c : CfgD) (v : VwD) (p : Int) : VwD := v.beg (decide (7 ≤ (c.what p).1) && decide ((c.what p).1 ≤ 15)) (-1) p
def VwD.word (c : CfgD) (v : VwD) (b k : Int) : VwD := v.beg (c.at_ 16 b k != -1) b (c.at_ 16 b k)
def VwD.live (c : CfgD) (v : VwD) (b : Int) : VwD := v.beg (c.at_ 11 b 0 != -1) b (-1)

set_option maxRecDepth 100000 in
set_option maxHeartbeats 2000000 in
theorem vwCell_calls {w : World} {B : Nat} {c : CfgD} {v : VwD} (h : VwS w B c v) (hc : c.Bd) (p : Int) (hp : -9223372036854775808 ≤ p ∧ p ≤ 9223372036854775807) :
    Calls Try.prog 67 #[.pointer (some ⟨B, 0, none⟩), .int .i64 p] w (VwT w B c (v.cell c p)) := by
  have hl := h.map
  have HH := Lib.hid h
  have HC := Lib.hid hc
  have HP := Lib.hid hp
  clear h hc hp
  by_cases h7 : 7 ≤ (c.what p).1
  · have h7' : decide (7 ≤ (c.what p).1) = true := decide_eq_true h7
    go_enter Try.func67, Try.ntmps67
    go_wp2_with (first
      | (go_at_call 57; (refine (what_calls c HC.out p HP.out _).mono ?_); rintro e w1 ⟨rfl, hk⟩; have H1 := Lib.hid (HH.out.keep hk))
      | (go_at_call 95; (refine (vwBegin_calls H1.out _ _ _).mono ?_); rintro e w2 ⟨rfl, h2, hk2⟩))
    go_end0
    exact VwT.mk rfl (by unfold VwD.cell; rw [h7', Bool.true_and]; exact h2) ((hk.mono (fun _ _ h => h.elim)).trans hk2)
  · have h7' : decide (7 ≤ (c.what p).1) = false := decide_eq_false h7
    go_enter Try.func67, Try.ntmps67
    go_wp2_with (first
      | (go_at_call 57; (refine (what_calls c HC.out p HP.out _).mono ?_); rintro e w1 ⟨rfl, hk⟩; have H1 := Lib.hid (HH.out.keep hk))
      | (go_at_call 95; (refine (vwBegin_calls H1.out _ _ _).mono ?_); rintro e w2 ⟨rfl, h2, hk2⟩))
    go_end0
    exact VwT.mk rfl (by unfold VwD.cell; rw [h7', Bool.false_and]; exact h2) ((hk.mono (fun _ _ h => h.elim)).trans hk2)

set_option maxRecDepth 100000 in
set_option maxHeartbeats 2000000 in
theorem vwWord_calls {w : World} {B : Nat} {c : CfgD} {v : VwD} (h : VwS w B c v) (hc : c.Bd) (b k : Int) :
    Calls Try.prog 66 #[.pointer (some ⟨B, 0, none⟩), .int .i64 b, .int .i64 k] w (VwT w B c (v.word c b k)) := by
  have hl := h.map
  have HH := Lib.hid h
  have HC := Lib.hid hc
  clear h hc
  go_enter Try.func66, Try.ntmps66
  go_wp2_with (first
    | (go_at_call 54; (refine (at_calls c HC.out _ _ _ _).mono ?_); rintro e w1 ⟨rfl, hk⟩; have H1 := Lib.hid (HH.out.keep hk))
    | (go_at_call 95; (refine (vwBegin_calls H1.out _ _ _).mono ?_); rintro e w2 ⟨rfl, h2, hk2⟩))
  go_end0
  exact VwT.mk rfl h2 ((hk.mono (fun _ _ h => h.elim)).trans hk2)

set_option maxRecDepth 100000 in
set_option maxHeartbeats 2000000 in
theorem vwLive_calls {w : World} {B : Nat} {c : CfgD} {v : VwD} (h : VwS w B c v) (hc : c.Bd) (b : Int) :
    Calls Try.prog 68 #[.pointer (some ⟨B, 0, none⟩), .int .i64 b] w (VwT w B c (v.live c b)) := by
  have hl := h.map
  have HH := Lib.hid h
  have HC := Lib.hid hc
  clear h hc
  go_enter Try.func68, Try.ntmps68
  go_wp2_with (first
    | (go_at_call 54; (refine (at_calls c HC.out _ _ _ _).mono ?_); rintro e w1 ⟨rfl, hk⟩; have H1 := Lib.hid (HH.out.keep hk))
    | (go_at_call 95; (refine (vwBegin_calls H1.out _ _ _).mono ?_); rintro e w2 ⟨rfl, h2, hk2⟩))
  go_end0
  exact VwT.mk rfl h2 ((hk.mono (fun _ _ h => h.elim)).trans hk2)
end Go.Proofs.Ytebffkoonbkhnaa
