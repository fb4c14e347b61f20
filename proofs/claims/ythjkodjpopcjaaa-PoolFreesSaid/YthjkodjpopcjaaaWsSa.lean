/- Entries compared: the operation alone. -/
/- The document's Same of layer 8, of rows that are the same. -/
import Derived.Test.YthjkodjpopcjaaaBase
import Derived.Test.YthjkodjpopcjaaaWsX
import Derived.LoopTactic
import Derived.Deep.QuietTactic
import Derived.BigQuiet
namespace Go.Proofs.Ythjkodjpopcjaaa
open Go.RowKit
theorem run_re_neq (W : World) (a v : Int) : (binOp .neq 148 (.agg #[.int .i64 a, .int .u64 v]) (.agg #[.int .i64 a, .int .u64 v])).run Try.prog W = .ok (.bool false) W := by
  simp [go_sem]
end Go.Proofs.Ythjkodjpopcjaaa

namespace Go.Proofs.Ythjkodjpopcjaaa
open Go.RowKit Go.Maps

def SaRel (w : World) (n : Nat) (i : Value) (wr : World) : Prop := ∃ (W : World) (k : Nat), W = wr ∧ i = .int .i64 k ∧ k ≤ n ∧ Kept (fun _ => False) w W
set_option maxRecDepth 100000 in
set_option maxHeartbeats 1000000 in
theorem same_calls {w : World} {va vb : Value} {l : List (Int × Int)} (ha : w.ownsRow 0 148 2 va l.length (entL l)) (hb : w.ownsRow 0 148 2 vb l.length (entL l)) (hl : l.length ≤ 60000) :
    Calls Try.prog 41 #[va, vb] w fun e w' => e = .returned (.bool true) ∧ Kept (fun _ => False) w w' := by
  obtain ⟨n, hn⟩ : ∃ n, l.length = n := ⟨_, rfl⟩
  rw [hn] at ha hb hl
  obtain ⟨A, c, rfl⟩ := own_form ha
  obtain ⟨B, d, rfl⟩ := own_form hb
  have HA := Lib.hid ha
  have HB := Lib.hid hb
  have HN := Lib.hid hn
  clear ha hb hn
  go_enter Try.func41, Try.ntmps41
  go_wp2_with fail
  go_loopw [5] (fun i wr => SaRel w n i wr) (fun i _ => n - (intOf i).toNat)
  case atStart => exact ⟨_, 0, rfl, rfl, Nat.zero_le _, Kept.refl _ _⟩
  case round =>
    obtain ⟨W, k, rfl, rfl, hk, hK⟩ := hrel
    by_cases hlt : k < n
    · obtain ⟨e, he⟩ : ∃ e, l[k]? = some e := ⟨_, List.getElem?_eq_getElem (by rw [HN.out]; exact hlt)⟩
      obtain ⟨ga, _, ea, _⟩ := own_some HA.out (by omega)
      obtain ⟨gb, _, eb, _⟩ := own_some HB.out (by omega)
      injection ea with ea _ ea3
      injection eb with eb _ eb3
      subst ea eb ea3 eb3
      obtain ⟨c0, c1⟩ := ent_cells (hK.own HA.out (fun _ _ h => h)) he hlt
      obtain ⟨d0, d1⟩ := ent_cells (hK.own HB.out (fun _ _ h => h)) he hlt
      have hne := fun W => run_re_neq W e.1 e.2
      have HK := Lib.hid hK
      clear hK he
      go_wp2_with fail
      go_quiet (fail)
      go_wp2_with fail
      go_roundw
      case rel => exact ⟨_, k + 1, rfl, by simp, by omega, HK.out.drewN _⟩
      case measure => simp [intOf]; omega
    · have HK := Lib.hid hK
      clear hK
      go_wp2_with fail
      go_ret
      exact ⟨rfl, HK.out⟩
end Go.Proofs.Ythjkodjpopcjaaa
