/- Layer 2 (glyph): the reading without the limit; numbers' digits. -/
import Derived.Test.YtonihjijienigaaDoorGlP
import Derived.Test.YtonihjijienigaaDoorGlJ
import Derived.Lib.ParseIntBCases
namespace Go.Proofs.YtonihjijienigaaDoor
open Go.RowKit

def readN (l : List UInt8) : Tok × Int := readP (Bq (l.take (tokLen l)))
def consT (t : Tok) (q : List Tok × Int × Int) : List Tok × Int × Int := if q.2.2 ≠ 0 then ([], q.2.1, q.2.2) else (t :: q.1, 0, 0)
def tokOf (l : List UInt8) (a line : Nat) : Tok := { (readN l).1 with at_ := a, line := line }
def nextLn (l : List UInt8) (line : Nat) : Nat := if (readN l).1.kind = 3 then line + 1 else line
/-- The reading, without the limit of tokens. -/
def lexT : Nat → List UInt8 → Nat → Nat → List Tok × Int × Int
  | 0, _, _, _ => ([], 0, 0)
  | _ + 1, [], _, _ => ([], 0, 0)
  | f + 1, c :: r, a, line =>
    if blankB (c.toNat : Int) = true then lexT f r (a + 1) line
    else if c.toNat = 35 then lexT f (r.dropWhile nlC) (a + 1 + (r.takeWhile nlC).length) line
    else if (readN (c :: r)).2 ≠ 0 then ([], (a : Int), (readN (c :: r)).2)
    else consT (tokOf (c :: r) a line) (lexT f ((c :: r).drop (tokLen (c :: r))) (a + tokLen (c :: r)) (nextLn (c :: r) line))

theorem tokLen_pos (c : UInt8) (r : List UInt8) : 1 ≤ tokLen (c :: r) := by
  simp only [tokLen]
  split
  · omega
  · exact (decL_le (c :: r) (by simp)).1
theorem tokLen_le (c : UInt8) (r : List UInt8) : tokLen (c :: r) ≤ (c :: r).length := by
  simp only [tokLen]
  split
  · have := takeWhile_le goesC r; simp; omega
  · exact (decL_le (c :: r) (by simp)).2
theorem lexT_fuel : ∀ (f f' : Nat) (l : List UInt8) (a line : Nat), l.length < f → l.length < f' → lexT f l a line = lexT f' l a line := by
  intro f
  induction f with
  | zero => intro f' l a line h; omega
  | succ f ih =>
    intro f' l a line h h'
    obtain ⟨f', rfl⟩ : ∃ g, f' = g + 1 := ⟨f' - 1, by omega⟩
    cases l with
    | nil => rfl
    | cons c r =>
      have h1 := tokLen_pos c r
      have h2 := takeWhile_le nlC r
      simp only [List.length_cons] at h h'
      rw [lexT, lexT, ih f' r (a + 1) line (by omega) (by omega), ih f' (r.dropWhile nlC) _ line (by rw [dropWhile_drop, List.length_drop]; omega) (by rw [dropWhile_drop, List.length_drop]; omega),
        ih f' ((c :: r).drop (tokLen (c :: r))) _ _ (by rw [List.length_drop, List.length_cons]; omega) (by rw [List.length_drop, List.length_cons]; omega)]
def T (l : List UInt8) (a line : Nat) : List Tok × Int × Int := lexT (l.length + 1) l a line
theorem T_nil (a line : Nat) : T [] a line = ([], 0, 0) := rfl
theorem T_of (f : Nat) (l : List UInt8) (a line : Nat) (h : l.length < f) : lexT f l a line = T l a line := lexT_fuel _ _ _ _ _ h (by omega)
theorem T_blank (c : UInt8) (r : List UInt8) (a line : Nat) (h : blankB (c.toNat : Int) = true) : T (c :: r) a line = T r (a + 1) line := by
  unfold T
  rw [List.length_cons, lexT, if_pos h]
theorem T_remark (c : UInt8) (r : List UInt8) (a line : Nat) (h : blankB (c.toNat : Int) = false) (h35 : c.toNat = 35) :
    T (c :: r) a line = T (r.dropWhile nlC) (a + 1 + (r.takeWhile nlC).length) line := by
  have h2 := takeWhile_le nlC r
  unfold T
  rw [List.length_cons, lexT, if_neg (by rw [h]; decide), if_pos h35]
  exact T_of _ _ _ _ (by rw [dropWhile_drop, List.length_drop]; omega)
theorem T_bad (c : UInt8) (r : List UInt8) (a line : Nat) (h : blankB (c.toNat : Int) = false) (h35 : c.toNat ≠ 35) (he : (readN (c :: r)).2 ≠ 0) : T (c :: r) a line = ([], (a : Int), (readN (c :: r)).2) := by
  unfold T
  rw [List.length_cons, lexT, if_neg (by rw [h]; decide), if_neg h35, if_pos he]
theorem T_tok (c : UInt8) (r : List UInt8) (a line : Nat) (h : blankB (c.toNat : Int) = false) (h35 : c.toNat ≠ 35) (he : (readN (c :: r)).2 = 0) :
    T (c :: r) a line = consT (tokOf (c :: r) a line) (T ((c :: r).drop (tokLen (c :: r))) (a + tokLen (c :: r)) (nextLn (c :: r) line)) := by
  have h1 := tokLen_pos c r
  unfold T
  rw [List.length_cons, lexT, if_neg (by rw [h]; decide), if_neg h35, if_neg (by rw [he]; decide)]
  congr 1
  exact T_of _ _ _ _ (by rw [List.length_drop, List.length_cons]; omega)

theorem lexD_T : ∀ (f : Nat) (l : List UInt8) (a : Nat) (acc : List Tok) (line : Nat), l.length < f → acc.length + l.length ≤ 16384 →
    lexD f l a acc line = if (T l a line).2.2 ≠ 0 then ([], (T l a line).2.1, (T l a line).2.2) else (acc ++ (T l a line).1, 0, 0) := by
  intro f
  induction f with
  | zero => intro l a acc line h; omega
  | succ f ih =>
    intro l a acc line h hm
    cases l with
    | nil => rw [T_nil]; simp [lexD]
    | cons c r =>
      have h1 := tokLen_pos c r
      have h2 := takeWhile_le nlC r
      have h3 := tokLen_le c r
      simp only [List.length_cons] at h hm h3
      rw [lexD]
      by_cases hb : blankB (c.toNat : Int) = true
      · rw [if_pos hb, T_blank c r a line hb, ih r (a + 1) acc line (by omega) (by omega)]
      · rw [if_neg hb]
        have hb' : blankB (c.toNat : Int) = false := by simpa using hb
        by_cases h35 : c.toNat = 35
        · rw [if_pos h35, T_remark c r a line hb' h35]
          exact ih _ _ acc line (by rw [dropWhile_drop, List.length_drop]; omega) (by rw [dropWhile_drop, List.length_drop]; omega)
        · rw [if_neg h35, if_neg (show ¬ ((readP (Bq ((c :: r).take (tokLen (c :: r))))).2 = 0 ∧ acc.length = 16384) by omega)]
          by_cases he : (readN (c :: r)).2 = 0
          · rw [if_neg (show ¬ (readP (Bq ((c :: r).take (tokLen (c :: r))))).2 ≠ 0 from fun h => h he), T_tok c r a line hb' h35 he]
            rw [ih _ _ _ _ (by rw [List.length_drop, List.length_cons]; omega) (by rw [List.length_append, List.length_drop, List.length_cons]; simp; omega)]
            obtain ⟨X, hX⟩ : ∃ X, T ((c :: r).drop (tokLen (c :: r))) (a + tokLen (c :: r)) (nextLn (c :: r) line) = X := ⟨_, rfl⟩
            change (if (T ((c :: r).drop (tokLen (c :: r))) (a + tokLen (c :: r)) (nextLn (c :: r) line)).2.2 ≠ 0 then ([], (T ((c :: r).drop (tokLen (c :: r))) (a + tokLen (c :: r)) (nextLn (c :: r) line)).2.1, (T ((c :: r).drop (tokLen (c :: r))) (a + tokLen (c :: r)) (nextLn (c :: r) line)).2.2)
              else ((acc ++ [tokOf (c :: r) a line]) ++ (T ((c :: r).drop (tokLen (c :: r))) (a + tokLen (c :: r)) (nextLn (c :: r) line)).1, 0, 0)) = _
            rw [hX]
            by_cases hq : X.2.2 = 0
            · have e : consT (tokOf (c :: r) a line) X = (tokOf (c :: r) a line :: X.1, 0, 0) := by unfold consT; rw [if_neg (fun h => h hq)]
              rw [e, if_neg (fun h => h hq), if_neg (fun h => h rfl)]
              simp
            · have e : consT (tokOf (c :: r) a line) X = ([], X.2.1, X.2.2) := by unfold consT; rw [if_pos hq]
              rw [e, if_pos hq]
              simp only
              rw [if_pos hq]
          · rw [if_pos (show (readP (Bq ((c :: r).take (tokLen (c :: r))))).2 ≠ 0 from he), T_bad c r a line hb' h35 he]
            rw [if_pos he]
            rfl
theorem T_clean : ∀ (n : Nat) (l : List UInt8) (a line : Nat), l.length < n → ((T l a line).2.2 = 0 → (T l a line).2.1 = 0) ∧ ((T l a line).2.2 ≠ 0 → (T l a line).1 = []) := by
  intro n
  induction n with
  | zero => intro l a line h; omega
  | succ n ih =>
    intro l a line h
    cases l with
    | nil => rw [T_nil]; simp
    | cons c r =>
      have h1 := tokLen_pos c r
      simp only [List.length_cons] at h
      by_cases hb : blankB (c.toNat : Int) = true
      · rw [T_blank c r a line hb]; exact ih r _ _ (by omega)
      · have hb' : blankB (c.toNat : Int) = false := by simpa using hb
        by_cases h35 : c.toNat = 35
        · rw [T_remark c r a line hb' h35]
          exact ih _ _ _ (by rw [dropWhile_drop, List.length_drop]; omega)
        · by_cases he : (readN (c :: r)).2 = 0
          · rw [T_tok c r a line hb' h35 he]
            unfold consT
            split
            · rename_i hq
              exact ⟨fun h0 => absurd h0 hq, fun _ => rfl⟩
            · exact ⟨fun _ => rfl, fun h0 => absurd rfl h0⟩
          · rw [T_bad c r a line hb' h35 he]
            exact ⟨fun h0 => absurd h0 he, fun _ => rfl⟩
theorem lexP_T (s : ByteArray) (hs : s.size ≤ 16384) : lexP s = T s.data.toList 0 0 := by
  rw [lexP_eq s (by omega), lexD_T (s.size + 1) s.data.toList 0 [] 0 (by rw [Array.length_toList]; exact Nat.lt_succ_self _) (by rw [Array.length_toList]; simpa using hs)]
  have hc := T_clean _ s.data.toList 0 0 (Nat.lt_succ_self _)
  by_cases h : (T s.data.toList 0 0).2.2 = 0
  · rw [if_neg (fun h' => h' h)]
    have := hc.1 h
    rw [List.nil_append]
    rw [← this]
    conv => rhs; rw [← Prod.eta (T s.data.toList 0 0), ← Prod.eta (T s.data.toList 0 0).2]
    rw [h, this]
  · rw [if_pos h]
    have := hc.2 h
    rw [← this]

/-! ## digits -/
def isDg (c : UInt8) : Prop := 48 ≤ c.toNat ∧ c.toNat ≤ 57
theorem digitB_of {c : UInt8} (h : isDg c) : digitB (c.toNat : Int) = true := decide_eq_true (by unfold isDg at h; omega)
theorem goesC_of {c : UInt8} (h : isDg c) : goesC c = true := by unfold goesC goesOnB beginsB; rw [digitB_of h]; simp
theorem beginsB_of {c : UInt8} (h : isDg c) : beginsB (c.toNat : Int) = true := by unfold beginsB; rw [digitB_of h]; simp
theorem dgByte (d : Nat) (h : d < 10) : (UInt8.ofNat (48 + d)).toNat = 48 + d := by
  rw [UInt8.toNat_ofNat']; omega
theorem decDigits_dg (u : Nat) : ∀ c ∈ Lib.decDigits u, isDg c := by
  induction u using Nat.strongRecOn with
  | _ u ih =>
    intro c hc
    rw [Lib.decDigits] at hc
    split at hc
    · rename_i h
      rw [List.mem_singleton] at hc
      subst hc
      unfold isDg
      rw [dgByte u h]; omega
    · rename_i h
      rcases List.mem_append.1 hc with hc | hc
      · exact ih (u / 10) (by omega) c hc
      · rw [List.mem_singleton] at hc
        subst hc
        unfold isDg
        rw [dgByte _ (Nat.mod_lt _ (by omega))]; omega
theorem decDigits_ne (u : Nat) : Lib.decDigits u ≠ [] := by
  intro h
  have := Lib.decDigits_length u
  rw [h] at this
  have := Lib.nDigits_pos u
  simp at *
  omega
theorem decDigits_head (u : Nat) : ∀ c r, Lib.decDigits u = c :: r → (0 < r.length → c.toNat ≠ 48) ∧ (1 ≤ u → c.toNat ≠ 48) := by
  induction u using Nat.strongRecOn with
  | _ u ih =>
    intro c r hc
    by_cases h : u < 10
    · rw [Lib.decDigits_one h] at hc
      injection hc with h1 h2
      subst h1 h2
      refine ⟨fun h => by simp at h, fun h1 => ?_⟩
      rw [dgByte u h]; omega
    · rw [Lib.decDigits, dif_neg h] at hc
      cases hd : Lib.decDigits (u / 10) with
      | nil => exact absurd hd (decDigits_ne _)
      | cons c' r' =>
        rw [hd, List.cons_append] at hc
        injection hc with h1 h2
        subst h1
        have := (ih (u / 10) (by omega) c' r' hd).2 (by omega)
        exact ⟨fun _ => this, fun _ => this⟩
theorem parse_snoc (M : Nat) (c : UInt8) : ∀ (l : List UInt8) (acc u : Nat), Lib.parseUintM M acc l = .ok u → Lib.parseUintM M acc (l ++ [c]) = Lib.parseUintM M u [c] := by
  intro l
  induction l with
  | nil =>
    intro acc u h
    simp only [Lib.parseUintM] at h
    injection h with h
    subst h
    rfl
  | cons d l ih =>
    intro acc u h
    rw [List.cons_append]
    simp only [Lib.parseUintM] at h
    conv => lhs; rw [Lib.parseUintM]
    split at h
    · rename_i h1
      rw [if_pos h1]
      split at h
      · cases h
      · rename_i h2
        rw [if_neg h2]
        split at h
        · cases h
        · rename_i h3
          rw [if_neg h3]
          exact ih _ _ h
    · cases h
theorem parse_dec (u : Nat) (h : u < 18446744073709551616) : Lib.parseUintM 18446744073709551615 0 (Lib.decDigits u) = .ok u := by
  induction u using Nat.strongRecOn with
  | _ u ih =>
    by_cases h10 : u < 10
    · rw [Lib.decDigits_one h10]
      simp only [Lib.parseUintM, dgByte u h10]
      rw [if_pos (by omega), if_neg (by omega), if_neg (by omega)]
      congr 1
      omega
    · rw [Lib.decDigits, dif_neg h10, parse_snoc _ _ _ _ _ (ih (u / 10) (by omega) (by omega))]
      simp only [Lib.parseUintM, dgByte _ (Nat.mod_lt u (show 10 > 0 by omega))]
      rw [if_pos (by omega), if_neg (by omega), if_neg (by omega)]
      congr 1
      omega
theorem parse_dgs (M : Nat) : ∀ (l : List UInt8) (acc u : Nat), Lib.parseUintM M acc l = .ok u → ∀ c ∈ l, isDg c := by
  intro l
  induction l with
  | nil => intro acc u _ c hc; simp at hc
  | cons d l ih =>
    intro acc u h c hc
    simp only [Lib.parseUintM] at h
    split at h
    · rename_i h1
      split at h
      · cases h
      · split at h
        · cases h
        · rcases List.mem_cons.1 hc with rfl | hc
          · exact h1
          · exact ih _ _ h c hc
    · cases h
theorem parseB_dec (u : Nat) (h : u < 18446744073709551616) : Lib.parseUintB 64 (Lib.decDigits u) = .ok u := by
  unfold Lib.parseUintB
  rw [if_neg (decDigits_ne u)]
  exact parse_dec u h
theorem parseB_dgs {l : List UInt8} {u : Nat} (h : Lib.parseUintB 64 l = .ok u) : ∀ c ∈ l, isDg c := by
  unfold Lib.parseUintB at h
  split at h
  · cases h
  · exact parse_dgs _ _ _ _ h
theorem Bq_get0 (c : UInt8) (r : List UInt8) : (Bq (c :: r)).get! 0 = c := by rw [get!_getD]; rfl
/-- What is read of a run that begins with a digit. -/
theorem readP_dg (c : UInt8) (r : List UInt8) (h : isDg c) : readP (Bq (c :: r)) = numP (Bq (c :: r)) := by
  unfold readP
  rw [Bq_get0, if_neg (by unfold isDg at h; omega), if_pos (digitB_of h)]
theorem numP_dec (u : Nat) (h : u < 18446744073709551616) : numP (Bq (Lib.decDigits u)) = (⟨1, ⟨#[]⟩, u, 0, 0⟩, 0) := by
  unfold numP
  rw [Bq_data, parseB_dec u h]
  simp only
  rw [if_neg]
  rintro ⟨h1, h2⟩
  cases hd : Lib.decDigits u with
  | nil => exact absurd hd (decDigits_ne u)
  | cons c r =>
    rw [hd, Bq_get0] at h2
    rw [hd, Bq_size, List.length_cons] at h1
    exact (decDigits_head u c r hd).1 (by omega) h2
theorem numP_zero (r : List UInt8) (hr : r ≠ []) : (numP (Bq (48 :: r))).2 = 22 := by
  unfold numP
  split
  · rw [if_pos ⟨by rw [Bq_size, List.length_cons]; have := List.length_pos_iff.2 hr; omega, by rw [Bq_get0]; rfl⟩]
  · rfl
theorem numP_nodg (l : List UInt8) (c : UInt8) (hc : c ∈ l) (h : ¬ isDg c) : (numP (Bq l)).2 = 22 := by
  unfold numP
  rw [Bq_data]
  split
  · rename_i u hu
    exact absurd (parseB_dgs hu c hc) h
  · rfl
theorem takeWhile_all {p : UInt8 → Bool} {l : List UInt8} (h : ∀ c ∈ l, p c = true) : l.takeWhile p = l := by
  induction l with
  | nil => rfl
  | cons c r ih =>
    rw [List.takeWhile_cons, if_pos (h c (by simp)), ih (fun d hd => h d (by simp [hd]))]
/-- A run alone. -/
theorem T_run (c : UInt8) (r : List UInt8) (h : isDg c) (hr : ∀ d ∈ r, goesC d = true) (a line : Nat) :
    T (c :: r) a line = if (numP (Bq (c :: r))).2 ≠ 0 then ([], (a : Int), (numP (Bq (c :: r))).2) else ([{ (numP (Bq (c :: r))).1 with at_ := a, line := line }], 0, 0) := by
  have htl : tokLen (c :: r) = (c :: r).length := by
    simp only [tokLen]
    rw [if_pos (beginsB_of h), takeWhile_all hr, List.length_cons]
    omega
  have hrd : readN (c :: r) = numP (Bq (c :: r)) := by
    unfold readN
    rw [htl, List.take_length, readP_dg c r h]
  have hbl : blankB (c.toNat : Int) = false := by
    unfold isDg at h
    exact decide_eq_false (by omega)
  by_cases he : (numP (Bq (c :: r))).2 = 0
  · rw [if_neg (fun h' => h' he), T_tok c r a line hbl (by unfold isDg at h; omega) (by rw [hrd]; exact he), htl, List.drop_length, T_nil]
    unfold consT tokOf
    rw [hrd]
    rfl
  · rw [if_pos he, T_bad c r a line hbl (by unfold isDg at h; omega) (by rw [hrd]; exact he), hrd]
end Go.Proofs.YtonihjijienigaaDoor
