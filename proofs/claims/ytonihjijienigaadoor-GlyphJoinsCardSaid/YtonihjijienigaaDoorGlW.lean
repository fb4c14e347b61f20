/- Layer 2 (glyph): two texts with a row of blanks and a remark between. -/
import Derived.Test.YtonihjijienigaaDoorGlV
namespace Go.Proofs.YtonihjijienigaaDoor
open Go.RowKit

theorem T_blanks : ∀ (p l : List UInt8) (a line : Nat), (∀ c ∈ p, blankB (c.toNat : Int) = true) → T (p ++ l) a line = T l (a + p.length) line := by
  intro p
  induction p with
  | nil => intro l a line _; rfl
  | cons c p ih =>
    intro l a line h
    rw [List.cons_append, T_blank c _ a line (h c (by simp)), ih l (a + 1) line (fun d hd => h d (by simp [hd])), List.length_cons]
    congr 1
    omega
theorem goodEnd : Good ⟨3, ⟨#[]⟩, 0, 0, 0⟩ [10] := ⟨rfl, rfl, rfl, ⟨by decide, by decide⟩, by decide, Nat.zero_le _, fun _ => rfl, 10, _, rfl, by decide, by decide, fun h => absurd h (by decide), fun _ => .inl rfl⟩
theorem T_end (rest : List UInt8) (a line : Nat) : T (10 :: rest) a line = consT ⟨3, ⟨#[]⟩, 0, a, line⟩ (T rest (a + 1) (line + 1)) := by
  have := T_good goodEnd rest (fun h => absurd rfl h) a line
  exact this
def padL (k : Nat) : List UInt8 := (List.replicate k [32, 9]).flatten
theorem padL_len (k : Nat) : (padL k).length = 2 * k := by
  unfold padL
  induction k with
  | zero => rfl
  | succ k ih => rw [List.replicate_succ, List.flatten_cons, List.length_append, ih]; simp; omega
theorem padL_succ (k : Nat) : padL (k + 1) = padL k ++ [32, 9] := by
  unfold padL
  rw [List.replicate_succ', List.flatten_append]
  rfl
theorem padL_blank (k : Nat) : ∀ c ∈ padL k, blankB (c.toNat : Int) = true ∧ nlC c = true := by
  induction k with
  | zero => intro c hc; simp [padL] at hc
  | succ k ih =>
    intro c hc
    rw [padL_succ] at hc
    rcases List.mem_append.1 hc with h | h
    · exact ih c h
    · simp only [List.mem_cons, List.not_mem_nil, or_false] at h
      rcases h with rfl | rfl <;> exact ⟨by decide, by decide⟩
theorem sep_skip (k : Nat) (N rest : List UInt8) (hN : ∀ d ∈ N, nlC d = true) (a line : Nat) : T ((padL k ++ 35 :: N) ++ 10 :: rest) a line = T (10 :: rest) (a + (padL k ++ 35 :: N).length) line := by
  rw [List.append_assoc, T_blanks _ _ _ _ (fun c hc => (padL_blank k c hc).1), List.cons_append, T_remark 35 _ _ _ (by decide) (by decide)]
  have e1 : (N ++ 10 :: rest).takeWhile nlC = N := by rw [takeWhile_append_all hN, List.takeWhile_cons, if_neg (by decide), List.append_nil]
  have e2 : (N ++ 10 :: rest).dropWhile nlC = 10 :: rest := by rw [dropWhile_drop, e1, List.drop_left]
  rw [e1, e2, List.length_append, List.length_cons]
  congr 1
  omega
theorem joins_T (la lb N : List UInt8) (k : Nat) (hN : ∀ d ∈ N, nlC d = true) (q r : List Tok × Int × Int) (hq : T la 0 0 = q) (hr : T lb 0 0 = r) (X : List Tok × Int × Int) (hX : T (la ++ ((padL k ++ 35 :: N) ++ 10 :: (padL k ++ lb))) 0 0 = X) :
    (q.2.2 ≠ 0 → X = q) ∧ (q.2.2 = 0 → r.2.2 ≠ 0 → X.2.2 = r.2.2 ∧ X.2.1 = r.2.1 + la.length + 2 * (2 * k) + N.length + 2) ∧
    (q.2.2 = 0 → r.2.2 = 0 → X.2.2 = 0 ∧ X.1.map Tok.core = q.1.map Tok.core ++ (3, ⟨#[]⟩, 0) :: r.1.map Tok.core) := by
  obtain ⟨line', hj⟩ := T_join (padL k ++ 35 :: N) (padL k ++ lb) (fun d hd => by
      rcases List.mem_append.1 hd with h | h
      · exact (padL_blank k d h).2
      · rcases List.mem_cons.1 h with rfl | h
        · decide
        · exact hN d h) (by simp) (fun d hd => by
      cases k with
      | zero =>
        simp [padL] at hd
        subst hd
        exact ⟨by decide, by decide⟩
      | succ k =>
        unfold padL at hd
        rw [List.replicate_succ, List.flatten_cons] at hd
        simp at hd
        subst hd
        exact ⟨by decide, by decide⟩) (fun a line => sep_skip k N _ hN a line) _ la 0 0 (Nat.lt_succ_self _)
  rw [hX, hq, T_end, T_blanks _ _ _ _ (fun c hc => (padL_blank k c hc).1)] at hj
  obtain ⟨s1, s2, s3⟩ := T_shift _ lb (0 + la.length + (padL k ++ 35 :: N).length + 1 + (padL k).length) 0 (line' + 1) 0 (Nat.lt_succ_self _)
  rw [hr] at s1 s2 s3
  have hlen : (padL k ++ 35 :: N).length = 2 * k + 1 + N.length := by rw [List.length_append, padL_len, List.length_cons]; omega
  have hpl := padL_len k
  refine ⟨fun h => ?_, fun h hr0 => ?_, fun h hr0 => ?_⟩
  · rw [if_pos h] at hj
    exact hj
  · rw [if_neg (fun h' => h' h)] at hj
    have hne : (T lb (0 + la.length + (padL k ++ 35 :: N).length + 1 + (padL k).length) (line' + 1)).2.2 ≠ 0 := by rw [s2]; exact hr0
    have hsh := s3 hne
    obtain ⟨Y, hY⟩ : ∃ Y, T lb (0 + la.length + (padL k ++ 35 :: N).length + 1 + (padL k).length) (line' + 1) = Y := ⟨_, rfl⟩
    rw [hY] at hj hne hsh s2
    have e1 : ∀ t, consT t Y = ([], Y.2.1, Y.2.2) := fun t => if_pos hne
    rw [e1] at hj
    have e2 : joinT q.1 ([], Y.2.1, Y.2.2) = ([], Y.2.1, Y.2.2) := if_pos hne
    rw [e2] at hj
    subst hj
    refine ⟨s2, ?_⟩
    show Y.2.1 = _
    rw [hlen, hpl] at hsh
    push_cast at hsh
    omega
  · rw [if_neg (fun h' => h' h)] at hj
    obtain ⟨Y, hY⟩ : ∃ Y, T lb (0 + la.length + (padL k ++ 35 :: N).length + 1 + (padL k).length) (line' + 1) = Y := ⟨_, rfl⟩
    rw [hY] at hj s1 s2
    have hy0 : Y.2.2 = 0 := s2.trans hr0
    have e1 : ∀ t, consT t Y = (t :: Y.1, 0, 0) := fun t => if_neg (fun h' => h' hy0)
    rw [e1] at hj
    have e2 : ∀ ts : List Tok, joinT q.1 (ts, 0, 0) = (q.1 ++ ts, 0, 0) := fun ts => if_neg (fun h' => h' rfl)
    rw [e2] at hj
    subst hj
    refine ⟨rfl, ?_⟩
    rw [List.map_append, List.map_cons, s1]
    rfl
theorem nl_hi (n : Nat) (h1 : 128 ≤ n) (h2 : n < 256) : nlC (UInt8.ofNat n) = true := by
  refine decide_eq_true ?_
  rw [UInt8.toNat_ofNat']
  omega
/-- A rune's bytes hold no line's end, but the rune's own. -/
theorem encode_nl (r : Int) (h : r ≠ 10) : (∀ d ∈ (Utf8.encode r).data.toList, nlC d = true) ∧ (Utf8.encode r).data.toList.length ≤ 4 := by
  unfold Utf8.encode
  obtain ⟨c, hc, hb⟩ : ∃ c : Nat, (if Utf8.valid r then r.toNat else Utf8.runeError) = c ∧ (c ≠ 10 ∧ c ≤ 1114111) := by
    refine ⟨_, rfl, ?_⟩
    split
    · rename_i hv
      simp only [Utf8.valid, Bool.and_eq_true, Bool.or_eq_true, decide_eq_true_eq] at hv
      omega
    · exact ⟨by decide, by decide⟩
  simp only [hc]
  split
  · refine ⟨fun d hd => ?_, by simp⟩
    have hd' : d = UInt8.ofNat c := by simpa using hd
    subst hd'
    refine decide_eq_true ?_
    rw [UInt8.toNat_ofNat']
    omega
  · split
    · refine ⟨fun d hd => ?_, by simp⟩
      have hd' : d = UInt8.ofNat (0xC0 + c / 64) ∨ d = UInt8.ofNat (0x80 + c % 64) := by simpa using hd
      rcases hd' with rfl | rfl <;> exact nl_hi _ (by omega) (by omega)
    · split
      · refine ⟨fun d hd => ?_, by simp⟩
        have hd' : d = UInt8.ofNat (0xE0 + c / 4096) ∨ d = UInt8.ofNat (0x80 + c / 64 % 64) ∨ d = UInt8.ofNat (0x80 + c % 64) := by simpa using hd
        rcases hd' with rfl | rfl | rfl <;> exact nl_hi _ (by omega) (by omega)
      · refine ⟨fun d hd => ?_, by simp⟩
        have hd' : d = UInt8.ofNat (0xF0 + c / 262144) ∨ d = UInt8.ofNat (0x80 + c / 4096 % 64) ∨ d = UInt8.ofNat (0x80 + c / 64 % 64) ∨ d = UInt8.ofNat (0x80 + c % 64) := by simpa using hd
        rcases hd' with rfl | rfl | rfl | rfl <;> exact nl_hi _ (by omega) (by omega)
end Go.Proofs.YtonihjijienigaaDoor
