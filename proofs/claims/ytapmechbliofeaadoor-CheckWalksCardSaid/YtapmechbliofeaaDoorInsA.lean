/- Layer 3 (instr): small walks: isKind, fits, Uses (the table of fields alone). -/
import Derived.Test.YtapmechbliofeaaDoorBase
import Derived.Test.YtapmechbliofeaaDoorInsM
import Derived.LoopN
import Derived.Laws.RangeString
namespace Go.Proofs.YtapmechbliofeaaDoor
open Go.RowKit

/-- The table of fields holds what the program's text lays in it. -/
structure Tabs (w : World) : Prop where
  fields : ∀ k, k < 22 → w.cell? ⟨0, k, none⟩ = some (.string ⟨(flS k).toArray⟩)
theorem Tabs.kept {w w' : World} (h : Tabs w) (k : Kept (fun _ => False) w w') : Tabs w' :=
  ⟨fun i hi => k.cell_some (fun h => h) (h.fields i hi)⟩

theorem isKind_calls (op : Int) (w : World) : Calls Tryd.prog 32 #[.int .i64 op] w fun e w' => e = .returned (.bool (kindB op)) ∧ w = w' := by
  by_cases h0 : 0 ≤ op
  · by_cases h1 : op < 22
    · have hk : kindB op = true := by unfold kindB; exact decide_eq_true ⟨h0, h1⟩
      rw [hk]
      clear hk
      go_enter Tryd.func32, Tryd.ntmps32
      go_wp2
      go_ret
      exact ⟨rfl, rfl⟩
    · have hk : kindB op = false := by unfold kindB; exact decide_eq_false (fun h => h1 h.2)
      rw [hk]
      clear hk
      have h1' : 22 ≤ op := by omega
      go_enter Tryd.func32, Tryd.ntmps32
      go_wp2
      go_ret
      exact ⟨rfl, rfl⟩
  · have hk : kindB op = false := by unfold kindB; exact decide_eq_false (fun h => h0 h.1)
    rw [hk]
    clear hk
    have h0' : op < 0 := by omega
    go_enter Tryd.func32, Tryd.ntmps32
    go_wp2
    go_ret
    exact ⟨rfl, rfl⟩

theorem fits_calls (r : Int) (u : Bool) (w : World) : Calls Tryd.prog 33 #[.int .i64 r, .bool u] w fun e w' => e = .returned (.bool (fitsB r u)) ∧ w = w' := by
  cases u
  · have hk : fitsB r false = decide (r = 0) := rfl
    by_cases h : r = 0
    · subst h
      go_enter Tryd.func33, Tryd.ntmps33
      go_wp2
      go_ret
      exact ⟨rfl, rfl⟩
    · rw [hk, decide_eq_false h]
      clear hk
      have hb : (r == 0) = false := by simpa using h
      go_enter Tryd.func33, Tryd.ntmps33
      go_wp2
      go_ret
      exact ⟨rfl, rfl⟩
  · have hk : fitsB r true = decide (0 ≤ r ∧ r < 16) := rfl
    rw [hk]
    clear hk
    by_cases h0 : 0 ≤ r
    · by_cases h1 : r < 16
      · rw [decide_eq_true ⟨h0, h1⟩]
        go_enter Tryd.func33, Tryd.ntmps33
        go_wp2
        go_ret
        exact ⟨rfl, rfl⟩
      · rw [decide_eq_false (fun h => h1 h.2)]
        have h1' : 16 ≤ r := by omega
        go_enter Tryd.func33, Tryd.ntmps33
        go_wp2
        go_ret
        exact ⟨rfl, rfl⟩
    · rw [decide_eq_false (fun h => h0 h.1)]
      have h0' : r < 0 := by omega
      go_enter Tryd.func33, Tryd.ntmps33
      go_wp2
      go_ret
      exact ⟨rfl, rfl⟩

theorem uses_no (op : Int) (h : ¬ (0 ≤ op ∧ op < 22)) (w : World) : Calls Tryd.prog 31 #[.int .i64 op] w fun e w' => e = .returned (.tuple #[.bool false, .bool false, .bool false, .bool false]) ∧ Kept (fun _ => False) w w' := by
  have hb : kindB op = false := by unfold kindB; exact decide_eq_false h
  have hK := isKind_calls op w
  rw [hb] at hK
  clear hb
  go_enter Tryd.func31, Tryd.ntmps31
  go_wp2_with fail
  refine hK.mono ?_
  rintro e w' ⟨rfl, rfl⟩
  go_wp2_with fail
  exact bodyPost_ret (v := .tuple #[.bool false, .bool false, .bool false, .bool false]) (by simp [results, Tryd.results31, go_sem]) rfl ⟨rfl, Kept.refl _ _⟩

end Go.Proofs.YtapmechbliofeaaDoor
