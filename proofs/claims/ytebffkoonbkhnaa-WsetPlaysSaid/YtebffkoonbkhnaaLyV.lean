/- Layer 7 (lay): the contracts over what is kept. -/
import Derived.Test.YtebffkoonbkhnaaLyU
namespace Go.Proofs.Ytebffkoonbkhnaa
open Go.RowKit
attribute [local go_sem ↓] loadMap_eq

/-- True, and all is kept. -/
def Good (w : World) (e : Ending) (w' : World) : Prop := e = .returned (.bool true) ∧ Kept (fun _ => False) w w'

theorem limitK (c : CfgD) (h : c.Bd) (w : World) : Calls Try.prog 55 #[mapV c] w fun e w' => e = .returned (.int .i64 c.lim) ∧ Kept (fun _ => False) w w' :=
  (limit_calls c (begX c) h w).mono fun _ _ ⟨he, hb⟩ => ⟨he, keptBelow hb⟩
theorem capK (c : CfgD) (h : c.Bd) (w : World) : Calls Try.prog 103 #[mapV c] w fun e w' => e = .returned (.int .i64 c.cap) ∧ Kept (fun _ => False) w w' :=
  (cap_calls c (begX c) h w).mono fun _ _ ⟨he, hb⟩ => ⟨he, keptBelow hb⟩
theorem strideK (c : CfgD) (h : c.Bd) (w : World) : Calls Try.prog 99 #[mapV c] w fun e w' => e = .returned (.int .i64 c.str) ∧ Kept (fun _ => False) w w' :=
  (stride_calls c (begX c) h w).mono fun _ _ ⟨he, hb⟩ => ⟨he, keptBelow hb⟩
theorem cfgK (c : CfgD) (w : World) : Calls Try.prog 84 #[mapV c] w fun e w' => e = .returned (cfgV c) ∧ Kept (fun _ => False) w w' :=
  (cfg_calls c w).mono fun _ _ ⟨he, hb⟩ => ⟨he, keptBelow hb⟩
theorem ofK_no (c : CfgD) (h : ¬ c.Ok) (w : World) : Calls Try.prog 24 #[cfgV c] w fun e w' => e = .returned (.tuple #[.agg zeroA, .int .i64 1]) ∧ Kept (fun _ => False) w w' :=
  (of_no c h w).mono fun _ _ ⟨he, hb⟩ => ⟨he, keptBelow hb⟩
theorem ofK_yes (c : CfgD) (h : c.Ok) (w : World) : Calls Try.prog 24 #[cfgV c] w fun e w' => e = .returned (.tuple #[mapV c, .int .i64 0]) ∧ Kept (fun _ => False) w w' :=
  (of_yes c h w).mono fun _ _ ⟨he, hb⟩ => ⟨he, keptBelow hb⟩

end Go.Proofs.Ytebffkoonbkhnaa
