/- Layer 7 (lay): the document's Right. -/
import Derived.Test.YtebffkoonbkhnaaLyV
namespace Go.Proofs.Ytebffkoonbkhnaa
open Go.RowKit

set_option maxRecDepth 100000 in
set_option maxHeartbeats 4000000 in
theorem right_calls (c : CfgD) (w : World) : Calls Try.prog 14 #[cfgV c] w fun e w' => e = .returned (.bool (decide c.Ok)) ∧ Kept (fun _ => False) w w' := by
  have HT := Lib.hid (fun (h : c.Ok) => decide_eq_true h)
  have HF := Lib.hid (fun (h : ¬ c.Ok) => decide_eq_false h)
  unfold cfgV
  by_cases hl : c.last ≤ 140737488355328
  all_goals
   go_enter Try.func14, Try.ntmps14
   go_wp2_with fail
   all_goals
     go_ret
     refine ⟨?_, (Kept.refl _ w).alloc _⟩
     first
     | (rw [HF.out (fun h => by have := h.t1; have := h.t8; have := h.b1; have := h.b64; have := h.w0; have := h.w64; have := h.f1; have := h.f1000; have := h.fl; have := h.l47; omega)]; rfl)
     | (rw [HF.out (fun h => by have := h.t1; have := h.t8; have := h.b1; have := h.b64; have := h.w0; have := h.w64; have := h.f1; have := h.f1000; have := h.fl; have := h.l47; omega)]; simp; omega)
     | (rw [HT.out ⟨by omega, by omega, by omega, by omega, by omega, by omega, by omega, by omega, by omega, by omega⟩]; rfl)
     | (rw [HT.out ⟨by omega, by omega, by omega, by omega, by omega, by omega, by omega, by omega, by omega, by omega⟩]; simp; omega)
     | trace_state
end Go.Proofs.Ytebffkoonbkhnaa
