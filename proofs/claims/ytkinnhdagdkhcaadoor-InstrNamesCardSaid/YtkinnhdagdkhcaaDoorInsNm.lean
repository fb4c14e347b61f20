/- Layer 3 (instr): the document's Name; the walk of InstrNames. -/
import Derived.Test.YtkinnhdagdkhcaaDoorInsL
namespace Go.Proofs.YtkinnhdagdkhcaaDoor
open Go.RowKit

def nameS (op : Int) : List UInt8 := if 0 ≤ op ∧ op < 22 then nmS op.toNat else []
theorem name_calls (op : Int) (w : World) (T : Tabs w) : Calls Tryd.prog 17 #[.int .i64 op] w fun e w' => e = .returned (.string ⟨(nameS op).toArray⟩) ∧ w = w' := by
  by_cases h : 0 ≤ op ∧ op < 22
  · obtain ⟨k, rfl⟩ : ∃ k : Nat, op = k := ⟨op.toNat, by omega⟩
    have e : nameS (k : Int) = nmS k := by unfold nameS; rw [if_pos h, Int.toNat_natCast]
    rw [e]
    exact name_yes k (by omega) w T
  · have e : nameS op = [] := by unfold nameS; rw [if_neg h]
    rw [e]
    exact name_no op h w
def nmA : Array Value := #[.string ⟨#[115, 101, 116]⟩, .string ⟨#[109, 111, 118, 101]⟩, .string ⟨#[112, 108, 117, 115]⟩, .string ⟨#[109, 105, 110, 117, 115]⟩, .string ⟨#[116, 105, 109, 101, 115]⟩, .string ⟨#[109, 111, 100, 117, 108, 111]⟩, .string ⟨#[101, 113, 117, 97, 108]⟩, .string ⟨#[108, 101, 115, 115]⟩, .string ⟨#[97, 114, 103]⟩, .string ⟨#[114, 111, 111, 116]⟩, .string ⟨#[112, 117, 116, 114, 111, 111, 116]⟩, .string ⟨#[114, 101, 97, 100]⟩, .string ⟨#[114, 101, 97, 100, 97, 116]⟩, .string ⟨#[119, 114, 105, 116, 101]⟩, .string ⟨#[119, 114, 105, 116, 101, 97, 116]⟩, .string ⟨#[110, 101, 119]⟩, .string ⟨#[102, 114, 101, 101]⟩, .string ⟨#[103, 111]⟩, .string ⟨#[122, 101, 114, 111]⟩, .string ⟨#[98, 97, 99, 107]⟩, .string ⟨#[114, 101, 116, 117, 114, 110]⟩, .string ⟨#[97, 98, 111, 114, 116]⟩]
theorem nmA_at (k : Nat) (hk : k < 22) : nmA[k]? = some (.string ⟨(nmS k).toArray⟩) := by
  match k, hk with
  | 0, _ => rfl | 1, _ => rfl | 2, _ => rfl | 3, _ => rfl | 4, _ => rfl | 5, _ => rfl | 6, _ => rfl | 7, _ => rfl | 8, _ => rfl | 9, _ => rfl | 10, _ => rfl
  | 11, _ => rfl | 12, _ => rfl | 13, _ => rfl | 14, _ => rfl | 15, _ => rfl | 16, _ => rfl | 17, _ => rfl | 18, _ => rfl | 19, _ => rfl | 20, _ => rfl | 21, _ => rfl
  | k + 22, hk => exact absurd hk (by omega)

set_option maxRecDepth 100000 in
theorem refName_calls (op : Int) (w : World) : Calls Tryd.prog 18 #[.int .i64 op] w fun e w' => e = .returned (.string ⟨(nameS op).toArray⟩) ∧ Kept (fun _ => False) w w' := by
  by_cases h : 0 ≤ op ∧ op < 22
  · obtain ⟨k, rfl⟩ : ∃ k : Nat, op = k := ⟨op.toNat, by omega⟩
    have hk : k < 22 := by omega
    have e : nameS (k : Int) = nmS k := by unfold nameS; rw [if_pos h, Int.toNat_natCast]
    rw [e]
    have hc : (w.alloc (.cells nmA 9)).cell? ⟨w.heap.size, k, none⟩ = some (.string ⟨(nmS k).toArray⟩) := by
      rw [(Blk.new w 9 nmA).cell k]
      exact nmA_at k hk
    unfold nmA at hc
    clear h e
    go_enter Tryd.func18, Tryd.ntmps18
    go_wp2
    go_ret
    exact ⟨rfl, (Kept.refl _ _).alloc _⟩
  · have e : nameS op = [] := by unfold nameS; rw [if_neg h]
    rw [e]
    clear e
    by_cases h0 : op < 0
    · go_enter Tryd.func18, Tryd.ntmps18
      go_wp2
      go_ret
      exact ⟨rfl, (Kept.refl _ _).alloc _⟩
    · have h1 : 22 ≤ op := by omega
      go_enter Tryd.func18, Tryd.ntmps18
      go_wp2
      go_ret
      exact ⟨rfl, (Kept.refl _ _).alloc _⟩

theorem ofS_nm (k : Nat) (hk : k < 22) : ofS (nmS k) = ((k : Int), true) := by
  match k, hk with
  | 0, _ => decide +kernel | 1, _ => decide +kernel | 2, _ => decide +kernel | 3, _ => decide +kernel | 4, _ => decide +kernel | 5, _ => decide +kernel | 6, _ => decide +kernel | 7, _ => decide +kernel
  | 8, _ => decide +kernel | 9, _ => decide +kernel | 10, _ => decide +kernel | 11, _ => decide +kernel | 12, _ => decide +kernel | 13, _ => decide +kernel | 14, _ => decide +kernel | 15, _ => decide +kernel
  | 16, _ => decide +kernel | 17, _ => decide +kernel | 18, _ => decide +kernel | 19, _ => decide +kernel | 20, _ => decide +kernel | 21, _ => decide +kernel
  | k + 22, hk => exact absurd hk (by omega)

theorem ofS_cases (l : List UInt8) : (ofS l = (0, false) ∧ ∀ j, j < 22 → (nmS j == l) = false) ∨ ∃ k : Nat, k < 22 ∧ ofS l = ((k : Int), true) ∧ l = nmS k := by
  unfold ofS
  cases hf : (List.range 22).find? (fun k => nmS k == l) with
  | none =>
    refine .inl ⟨rfl, fun j hj => ?_⟩
    rw [List.find?_eq_none] at hf
    simpa using hf j (by simpa using hj)
  | some k =>
    have h1 := List.find?_some hf
    have h2 := List.mem_of_find?_eq_some hf
    exact .inr ⟨k, by simpa using h2, rfl, by simpa using (beq_iff_eq.1 h1).symm⟩

end Go.Proofs.YtkinnhdagdkhcaaDoor
