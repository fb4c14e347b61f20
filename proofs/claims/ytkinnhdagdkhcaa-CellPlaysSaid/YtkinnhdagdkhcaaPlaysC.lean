/- CellPlays: the document's Do, whole; its Steps. -/
import Derived.Test.YtkinnhdagdkhcaaPlaysB
namespace Go.Proofs.Ytkinnhdagdkhcaa
open Go.RowKit

theorem refDo_calls {w : World} {CA : Option Addr} {cc : Nat} {EA : Option Addr} {ec : Nat} {cs : List (Int × Int)} {E : List EvD} (hX : XRep w CA cc EA ec cs E) (who k i : Int) (o n : Int × Int) (hm4 : cs.length ≤ 1000) (hte4 : E.length ≤ 1000) (r : Res) (hr : doStep cs E who k i o n = r) :
    Calls Try.prog 13 #[xV CA cs.length cc EA E.length ec, .int .i64 who, opV k i o n] w fun e w' => ∃ CA' cc' EA' ec', e = .returned (.tuple #[xV CA' r.cs.length cc' EA' r.E.length ec', outV r.p r.ok, .int .i64 r.err]) ∧
      XRep w' CA' cc' EA' ec' r.cs r.E ∧ Kept (fun _ => False) w w' ∧ (∀ x, CA' = some x → CA = some x ∨ w.heap.size ≤ x.block) ∧ (∀ x, EA' = some x → EA = some x ∨ w.heap.size ≤ x.block) := by
  subst hr
  by_cases h : doErr cs who k i = 0
  · have hb : ¬ (who < 0 ∨ 8 ≤ who) ∧ ¬ (k < 0 ∨ 3 < k) ∧ ¬ (i < 0 ∨ (cs.length : Int) ≤ i) := by
      unfold doErr at h
      by_cases h1 : who < 0 ∨ 8 ≤ who
      · rw [if_pos h1] at h; exact absurd h (by decide)
      · rw [if_neg h1] at h
        by_cases h2 : k < 0 ∨ 3 < k
        · rw [if_pos h2] at h; exact absurd h (by decide)
        · rw [if_neg h2] at h
          by_cases h3 : i < 0 ∨ (cs.length : Int) ≤ i
          · rw [if_pos h3] at h; exact absurd h (by decide)
          · exact ⟨h1, h2, h3⟩
    obtain ⟨i', rfl⟩ : ∃ i' : Nat, i = i' := ⟨i.toNat, by omega⟩
    have hil : i' < cs.length := by omega
    rw [doStep_good h]
    simp only [Int.toNat_natCast]
    have hp : cs[i']? = some (cs.getD i' (0, 0)) := by rw [List.getD_eq_getElem?_getD, List.getElem?_eq_getElem hil]; rfl
    generalize cs.getD i' (0, 0) = p at hp ⊢
    obtain ⟨g, hg⟩ : ∃ g, CA = some ⟨g, 0, none⟩ := by
      rcases hX.cells.2 with ⟨_, h0⟩ | ⟨g, cap, cur, hv, _⟩
      · omega
      · simp only [Value.slice.injEq] at hv
        exact ⟨g, hv.1⟩
    subst hg
    refine (refDo_ok g cc EA ec cs.length E.length cs E who k i' o n p w hX (by omega) (by omega) (by omega) (by omega) hp rfl rfl hm4 hte4).mono ?_
    rintro e w' ⟨CA', cc', EA', ec', rfl, hx, hk, h1, h2⟩
    exact ⟨CA', cc', EA', ec', by simp, hx, hk, fun x hx => .inr (h1 x hx), fun x hx => .inr (h2 x hx)⟩
  · rw [doStep_bad h]
    refine (refDo_bad CA cs.length cc EA E.length ec cs rfl who k i o n w h).mono ?_
    rintro e w' ⟨rfl, hk⟩
    exact ⟨CA, cc, EA, ec, rfl, hX.kept hk, hk, fun x hx => .inl hx, fun x hx => .inl hx⟩

theorem stepsOf_take (E : List EvD) (k : Nat) (hk : k < E.length) (who : Fin 8) : stepsOf (E.take (k + 1)) who = stepsOf (E.take k) who + if E[k].who = ((who.val : Nat) : Int) then 1 else 0 := by
  unfold stepsOf
  rw [List.take_succ_eq_append_getElem hk, List.filter_append]
  by_cases h : E[k].who = ((who.val : Nat) : Int)
  · simp [h]
  · simp [h]

set_option maxHeartbeats 2000000 in
theorem refSteps_calls {w : World} {CA : Option Addr} {cc : Nat} {EA : Option Addr} {ec : Nat} {cs : List (Int × Int)} {E : List EvD} (hX : XRep w CA cc EA ec cs E) (who : Fin 8) (hte4 : E.length ≤ 1000) :
    Calls Try.prog 27 #[xV CA cs.length cc EA E.length ec, .int .i64 (who.val : Int)] w fun e w' => e = .returned (.int .i64 (stepsOf E who)) ∧ Kept (fun _ => False) w w' := by
  unfold xV
  have HX := Lib.hid hX
  clear hX
  go_enter Try.func27, Try.ntmps27
  go_wp2_with fail
  go_loop [5, 6] (fun n i => ∃ k : Nat, k ≤ E.length ∧ i = .int .i64 k ∧ n = .int .i64 (stepsOf (E.take k) who)) (fun _ i => E.length - (intOf i).toNat)
  case atStart => exact ⟨0, Nat.zero_le _, rfl, by simp [stepsOf]⟩
  case round =>
    obtain ⟨k, hk, rfl, rfl⟩ := hrel
    have hsb := stepsOf_le (E.take k) who
    have hsl : (E.take k).length ≤ E.length := by rw [List.length_take]; omega
    by_cases hlt : k < E.length
    · have hst := stepsOf_take E k hlt who
      have hT := (HX.out.kept ((Kept.refl _ w).alloc (.cells #[.slice CA cs.length cc, .slice EA E.length ec] 31))).trace
      obtain ⟨h, hA⟩ : ∃ h, EA = some ⟨h, 0, none⟩ := by
        rcases hT.2 with ⟨_, h0⟩ | ⟨g, cap, cur, hv, _⟩
        · omega
        · simp at hv; exact ⟨g, hv.1⟩
      subst hA
      obtain ⟨e, he, c0, -⟩ := ev_cells hT hlt rfl
      obtain ⟨_, he'⟩ := List.getElem?_eq_some_iff.1 he
      rw [he'] at hst
      have HLT := Lib.hid hlt
      generalize stepsOf (E.take k) who = st at *
      clear hT he he'
      by_cases hwq : e.who = ((who.val : Nat) : Int)
      · rw [if_pos hwq] at hst
        rw [hwq] at c0
        have HS := Lib.hid hst
        clear hst hwq
        go_wp2_with fail
        exact ⟨⟨k + 1, HLT.out, rfl, by rw [HS.out]⟩, by have := HLT.out; simp [intOf]; omega⟩
      · rw [if_neg hwq, Int.add_zero] at hst
        have HS := Lib.hid hst
        clear hst
        go_wp2_with fail
        exact ⟨⟨k + 1, HLT.out, rfl, by rw [HS.out]⟩, by have := HLT.out; simp [intOf]; omega⟩
    · have hkn : k = E.length := by omega
      subst hkn
      rw [List.take_of_length_le (Nat.le_refl _)] at hsb ⊢
      clear hsb
      go_wp2_with fail
      go_ret
      exact ⟨rfl, (Kept.refl _ _).alloc _⟩

end Go.Proofs.Ytkinnhdagdkhcaa
