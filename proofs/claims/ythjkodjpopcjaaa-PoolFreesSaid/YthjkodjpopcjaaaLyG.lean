/- Layer 7 (lay): the document's Right. -/
/- Layers 7 and 8: the laws' arguments opened. -/
import Derived.Test.YthjkodjpopcjaaaLyV
import Derived.ProofKit
import Derived.Lib.SmallJoins
import Derived.Deep.Slices
import Derived.Carry
import Derived.OpenShut
namespace Go.Proofs.Ythjkodjpopcjaaa
open Go.RowKit

set_option maxRecDepth 100000 in
set_option maxHeartbeats 4000000 in
theorem right_calls (c : CfgD) (w : World) : Calls Try.prog 10 #[cfgV c] w fun e w' => e = .returned (.bool (decide c.Ok)) ∧ Kept (fun _ => False) w w' := by
  have HT := Lib.hid (fun (h : c.Ok) => decide_eq_true h)
  have HF := Lib.hid (fun (h : ¬ c.Ok) => decide_eq_false h)
  unfold cfgV
  by_cases hl : c.last ≤ 140737488355328
  all_goals
   go_enter Try.func10, Try.ntmps10
   go_wp2_with fail
   all_goals
     go_ret
     refine ⟨?_, (Kept.refl _ w).alloc _⟩
     first
     | (rw [HF.out (fun h => by have := h.t1; have := h.t8; have := h.b1; have := h.b64; have := h.w0; have := h.w64; have := h.f1; have := h.f1000; have := h.fl; have := h.l47; omega)]; rfl)
     | (rw [HF.out (fun h => by have := h.t1; have := h.t8; have := h.b1; have := h.b64; have := h.w0; have := h.w64; have := h.f1; have := h.f1000; have := h.fl; have := h.l47; omega)]; simp; omega)
     | (rw [HT.out ⟨by omega, by omega, by omega, by omega, by omega, by omega, by omega, by omega, by omega, by omega⟩]; rfl)
     | (rw [HT.out ⟨by omega, by omega, by omega, by omega, by omega, by omega, by omega, by omega, by omega, by omega⟩]; simp; omega)
     | trace_state
end Go.Proofs.Ythjkodjpopcjaaa

namespace Go.Proofs.Ythjkodjpopcjaaa
set_option maxRecDepth 100000
open Go.ChangeShapes Go.WideShapes Go.ChangeAt Go.RowKit Go.Joins Go.Deep

theorem Try.own : ownKnob Try.prog.godebug = none := by kernel_rfl
theorem Try.laidOut : laidOutB Try.prog = true := by kernel_rfl
theorem Try.cellsU64 : Try.prog.cellsOf 22 = 1 := by kernel_rfl
theorem Try.cellsInt : Try.prog.cellsOf 3 = 1 := by kernel_rfl
theorem Try.cellsCfg : Try.prog.cellsOf 24 = 6 := by kernel_rfl

def Int64 (x : Int) : Prop := -9223372036854775808 ≤ x ∧ x ≤ 9223372036854775807
section
variable {H : Type} {enc : TypeId × Value → H} {w : World} {base : Nat} {spare : Nat → Bool} {held : Bool}
theorem open_cfg {r : Reach} {b0 : Nat} {v : Value} {d : DataW H} {p : List MemPlace} (hv : Value.okWide Try.prog w r b0 24 v) (h : DataW.Trod enc Try.prog w base spare held 24 v d p) :
    ∃ c : CfgD, v = cfgV c := by
  obtain ⟨cs, rfl, hl0⟩ := okWide_struct Try.underlying24 hv
  obtain ⟨fuel, h⟩ := h
  obtain ⟨xs, n, _, _, hl, hlen, hf⟩ := DataW.trod_struct Try.underlying24 h
  have hl2 : cs.toList.length = 6 := by simpa [hl0] using Try.cellsCfg
  obtain ⟨cs⟩ := cs
  match cs, hl2, xs, hlen with
  | [e0, e1, e2, e3, e4, e5], _, [y0, y1, y2, y3, y4, y5], _ =>
    obtain ⟨a0, h0, _⟩ := DataW.trod_int Try.underlying3 (hf 0 _ rfl)
    obtain ⟨a1, h1, _⟩ := DataW.trod_int Try.underlying3 (hf 1 _ rfl)
    obtain ⟨a2, h2, _⟩ := DataW.trod_int Try.underlying3 (hf 2 _ rfl)
    obtain ⟨a3, h3, _⟩ := DataW.trod_int Try.underlying3 (hf 3 _ rfl)
    obtain ⟨a4, h4, _⟩ := DataW.trod_int Try.underlying22 (hf 4 _ rfl)
    obtain ⟨a5, h5, _⟩ := DataW.trod_int Try.underlying22 (hf 5 _ rfl)
    simp [Value.cells, Try.cellsInt, Try.cellsU64] at h0 h1 h2 h3 h4 h5
    exact ⟨⟨a0, a1, a2, a3, a4, a5⟩, by rw [h0, h1, h2, h3, h4, h5]; rfl⟩
theorem open_int64 {r : Reach} {b0 : Nat} {v : Value} {d : DataW H} {p : List MemPlace} (hv : Value.okWide Try.prog w r b0 3 v) (h : DataW.Trod enc Try.prog w base spare held 3 v d p) : ∃ x : Int, v = .int .i64 x ∧ Int64 x := by
  obtain ⟨x, rfl, _, _, hw⟩ := open_int Try.underlying3 hv h
  exact ⟨x, rfl, bounds_i64 hw⟩
end
theorem trod_places {H : Type} {enc : TypeId × Value → H} {W : World} {t : TypeId} {v : Value} {d : DataW H} {p : List MemPlace} (h : DataW.Trod enc Try.prog W 0 (fun _ => true) true t v d p) : ∀ x ∈ p, x.block < W.heap.size := by
  obtain ⟨m, hm⟩ := h
  exact DataW.trod_lt m _ _ _ hm
end Go.Proofs.Ythjkodjpopcjaaa
