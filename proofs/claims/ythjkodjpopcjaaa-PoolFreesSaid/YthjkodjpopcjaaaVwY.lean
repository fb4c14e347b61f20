/- Layer 9: what both laws' walks share. -/
import Derived.Test.YthjkodjpopcjaaaVwX
import Derived.Test.YthjkodjpopcjaaaVwG
import Derived.Test.YthjkodjpopcjaaaWsBa
namespace Go.Proofs.Ythjkodjpopcjaaa
open Go.RowKit
attribute [local go_sem ↓] loadMap_eq loadCfg_eq stMap_eq stRv_eq

theorem right7 (c : CfgD) (w : World) : Calls Try.prog 10 #[.agg (cfgA c)] w fun e w' => e = .returned (.bool (decide c.Ok)) ∧ Kept (fun _ => False) w w' := right_calls c w
theorem right9 (c : CfgD) (h : c.Ok) (who seq : Int) {w0 w : World} {g : Nat} {t : TypeId} {cs : Array Value} (k : Kept (fun _ => False) w0 w) (hb : Blk w g t cs) : Calls Try.prog 11 #[.agg (cfgA c), .int .i64 who, .int .u64 seq] w fun e w' => ∃ (B : Nat) (u : Int), 0 ≤ u ∧ u < c.t ∧
    e = .returned (.tuple #[.agg (mapA c), .pointer (some ⟨B, 0, none⟩), .agg (rvA c u seq (-1) false)]) ∧ VX w0 w' B c ⟨u, seq, -1, 0, 0, 0, 0, 1⟩ [(g, t, cs)] :=
  (right9_calls c h who seq w).mono fun _ _ ⟨B, u, h1, h2, _, h3, h4, h5, h6⟩ => ⟨B, u, h1, h2, h3, h4, k.trans h5, Nat.le_trans k.size h6, fun x hx => by
    rw [List.mem_singleton] at hx
    subst hx
    have := hb.lt
    exact ⟨h5.blk hb (fun h => h), by show g ≠ B; omega⟩⟩
/-- Behind right: the map and the document's view go into variables. -/
theorem VX.two {w0 w : World} {B : Nat} {c : CfgD} {v : VwD} {L : List (Nat × TypeId × Array Value)} (h : VX w0 w B c v L) (who seq held : Int) (stale : Bool) :
    ∃ w4, (stV 31 ⟨w.heap.size, 0, none⟩ (.agg (mapA c))).run Try.prog ((w.alloc (.cells #[.int .i64 0, .int .i64 0, .int .i64 0, .int .i64 0, .int .u64 0, .int .u64 0, .int .i64 0, .int .i64 0, .int .i64 0, .int .i64 0, .int .i64 0, .int .i64 0, .int .i64 0, .int .i64 0, .int .i64 0, .int .i64 0, .int .i64 0, .int .i64 0, .int .i64 0, .int .i64 0, .int .i64 0, .int .i64 0, .int .i64 0] 31)).alloc (.cells #[.int .i64 0, .int .i64 0, .int .i64 0, .int .i64 0, .int .u64 0, .int .u64 0, .int .i64 0, .int .u64 0, .int .i64 0, .bool false] 34)) = .ok () w4 ∧
    ∃ w5, (stV 34 ⟨w.heap.size + 1, 0, none⟩ (.agg (rvA c who seq held stale))).run Try.prog w4 = .ok () w5 ∧
      VX w0 w5 B c v ((w.heap.size + 1, 34, rvA c who seq held stale) :: (w.heap.size, 31, mapA c) :: L) := by
  have h1 := h.more 31 #[.int .i64 0, .int .i64 0, .int .i64 0, .int .i64 0, .int .u64 0, .int .u64 0, .int .i64 0, .int .i64 0, .int .i64 0, .int .i64 0, .int .i64 0, .int .i64 0, .int .i64 0, .int .i64 0, .int .i64 0, .int .i64 0, .int .i64 0, .int .i64 0, .int .i64 0, .int .i64 0, .int .i64 0, .int .i64 0, .int .i64 0]
  have h2 := h1.keep ((Kept.refl _ _).alloc (.cells #[.int .i64 0, .int .i64 0, .int .i64 0, .int .i64 0, .int .u64 0, .int .u64 0, .int .i64 0, .int .u64 0, .int .i64 0, .bool false] 34))
  obtain ⟨w4, s4, v4, k4⟩ := h2.put (ty := 31) (new := mapA c) h.kept.size h.lt (by kernel_rfl) rfl (mapA_one c)
  have hb : Blk w4 (w.heap.size + 1) 34 #[.int .i64 0, .int .i64 0, .int .i64 0, .int .i64 0, .int .u64 0, .int .u64 0, .int .i64 0, .int .u64 0, .int .i64 0, .bool false] := k4.blk (Blk.new' _ _ _ _ (by simp)) (by omega)
  have hB := Blk.lt h.vw
  have h5 := v4.add hb (by omega)
  obtain ⟨w5, s5, v5, _⟩ := h5.put (ty := 34) (new := rvA c who seq held stale) (by have := h.kept.size; omega) (fun x hx => by
    rcases List.mem_cons.1 hx with rfl | hx
    · show w.heap.size ≠ w.heap.size + 1; omega
    · have := (h.blks x hx).1.lt; omega) (by kernel_rfl) rfl (rvA_one _ _ _ _ _)
  exact ⟨w4, s4, w5, s5, v5⟩
theorem VX.askTo {w0 w : World} {B : Nat} {c : CfgD} {v : VwD} {L : List (Nat × TypeId × Array Value)} (h : VX w0 w B c v L) (hc : c.Bd) (hb : v.st = 0 → v.next = 0 → 0 ≤ v.block ∧ v.block < 64) {k p ov os nv ns : Int} {b : Bool} (he : v.ask c = (⟨k, p, ov, os, nv, ns⟩, b)) :
    Calls Try.prog 13 #[.pointer (some ⟨B, 0, none⟩)] w fun e w1 =>
      e = .returned (.tuple #[.agg #[.int .i64 k, .int .i64 p, .int .u64 ov, .int .u64 os, .int .u64 nv, .int .u64 ns], .bool b]) ∧ VX w0 w1 B c v L :=
  (h.ask hc hb).mono fun _ _ ⟨h1, h2⟩ => ⟨by rw [h1, he]; rfl, h2⟩
def rqCells (x : Int × Int × Int) : List Value := [.int .i64 x.1, .int .i64 x.2.1, .int .i64 x.2.2]
/-- One cell of the newest block is written. -/
theorem VX.setc {w0 w : World} {B g : Nat} {c : CfgD} {v : VwD} {t : TypeId} {cs : Array Value} {L : List (Nat × TypeId × Array Value)} (h : VX w0 w B c v ((g, t, cs) :: L)) (hg : w0.heap.size ≤ g) (hL : ∀ x ∈ L, x.1 ≠ g) (i : Nat) (u : Value) :
    VX w0 (w.setCell ⟨g, i, none⟩ u) B c v ((g, t, cs.setIfInBounds i u) :: L) := by
  have k : Kept (fun k => k = g) w (w.setCell ⟨g, i, none⟩ u) := (Kept.refl _ w).setAt u
  refine ⟨h.vw.kept k (fun e => (h.blks _ (List.mem_cons_self ..)).2 e.symm), Kept.fresh9 h.kept k hg, h.old, fun x hx => ?_⟩
  rcases List.mem_cons.1 hx with rfl | hx
  · exact ⟨h.at.set_ i u, (h.blks _ (List.mem_cons_self ..)).2⟩
  · exact ⟨k.blk (h.blks x (List.mem_cons_of_mem _ hx)).1 (hL x hx), (h.blks x (List.mem_cons_of_mem _ hx)).2⟩
end Go.Proofs.Ythjkodjpopcjaaa
