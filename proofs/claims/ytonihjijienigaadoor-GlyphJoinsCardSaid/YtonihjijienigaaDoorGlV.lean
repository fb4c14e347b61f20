/- Layer 2 (glyph): where tokens stand; two texts, one behind the other. -/
import Derived.Test.YtonihjijienigaaDoorGlU
namespace Go.Proofs.YtonihjijienigaaDoor
open Go.RowKit

theorem takeWhile_take (p : UInt8 → Bool) : ∀ (r : List UInt8) (m : Nat), (r.takeWhile p).length ≤ m → (r.take m).takeWhile p = r.takeWhile p := by
  intro r
  induction r with
  | nil => intro m _; simp
  | cons c r ih =>
    intro m h
    by_cases hc : p c = true
    · rw [List.takeWhile_cons, if_pos hc, List.length_cons] at h
      cases m with
      | zero => omega
      | succ m =>
        rw [List.take_succ_cons, List.takeWhile_cons, if_pos hc, List.takeWhile_cons, if_pos hc, ih m (by omega)]
    · rw [List.takeWhile_cons, if_neg hc]
      cases m with
      | zero => rfl
      | succ m => rw [List.take_succ_cons, List.takeWhile_cons, if_neg hc]
theorem tokLen_take (c : UInt8) (r : List UInt8) (hb : blankB (c.toNat : Int) = false) (h35 : c.toNat ≠ 35) (he : (readN (c :: r)).2 = 0) (m : Nat) (hm : tokLen (c :: r) ≤ m) : tokLen ((c :: r).take m) = tokLen (c :: r) := by
  have hg := read_good c r hb h35 he
  obtain ⟨c', r', hp, _, _, hrun, hsg⟩ := hg.head
  have hpos := tokLen_pos c r
  have hc : c' = c := by
    obtain ⟨k, hk⟩ : ∃ k, tokLen (c :: r) = k + 1 := ⟨tokLen (c :: r) - 1, by omega⟩
    rw [hk, List.take_succ_cons] at hp
    injection hp with h1 _
    exact h1.symm
  subst hc
  obtain ⟨k, rfl⟩ : ∃ k, m = k + 1 := ⟨m - 1, by omega⟩
  by_cases hbg : beginsB (c'.toNat : Int) = true
  · rw [List.take_succ_cons]
    simp only [tokLen] at hm ⊢
    rw [if_pos hbg] at hm ⊢
    rw [if_pos hbg, takeWhile_take goesC r k (by omega)]
  · have hspl : (c' :: r).take (k + 1) = (c' :: r).take (tokLen (c' :: r)) ++ ((c' :: r).take (k + 1)).drop (tokLen (c' :: r)) := by
      have := List.take_append_drop (tokLen (c' :: r)) ((c' :: r).take (k + 1))
      rw [List.take_take, Nat.min_eq_left hm] at this
      exact this.symm
    have hle := tokLen_le c' r
    have hlen : ((c' :: r).take (tokLen (c' :: r))).length = tokLen (c' :: r) := by rw [List.length_take]; omega
    rcases hsg (by simpa using hbg) with h10 | hmem
    · have hc10 : c' = 10 := by
        rw [hp] at h10
        injection h10
      have e1 : tokLen (c' :: r) = 1 := by rw [← hlen, h10]; rfl
      rw [e1, List.take_succ_cons]
      simp only [tokLen]
      rw [if_neg hbg, hc10, decL_ascii 10 _ (by decide)]
    · have h1 := sg_dec _ hmem (((c' :: r).take (k + 1)).drop (tokLen (c' :: r)))
      rw [← hspl, hlen] at h1
      rw [List.take_succ_cons] at h1 ⊢
      simp only [tokLen]
      rw [if_neg hbg]
      exact h1

/-! ## Where they stand -/
def Placed (L : List UInt8) : Nat → Nat → List Tok → Prop
  | _, _, [] => True
  | last, line, t :: ts => ∃ p : Nat, t.at_ = (p : Int) ∧ t.line = (line : Int) ∧ last ≤ p ∧ (wrP t).length ≠ 0 ∧ p + (wrP t).length ≤ L.length ∧ (L.drop p).take (wrP t).length = wrP t ∧ (0 ≤ t.kind ∧ t.kind ≤ 3) ∧
      Placed L (p + (wrP t).length) (if t.kind = 3 then line + 1 else line) ts
theorem placed_mono (L : List UInt8) : ∀ (ts : List Tok) (a b line : Nat), a ≤ b → Placed L b line ts → Placed L a line ts := by
  intro ts
  cases ts with
  | nil => intro a b line _ _; trivial
  | cons t ts =>
    rintro a b line h ⟨p, h1, h2, h3, rest⟩
    exact ⟨p, h1, h2, Nat.le_trans h h3, rest⟩
theorem T_placed (L : List UInt8) : ∀ (n : Nat) (a line : Nat), L.length - a < n → a ≤ L.length → (T (L.drop a) a line).2.2 = 0 → Placed L a line (T (L.drop a) a line).1 := by
  intro n
  induction n with
  | zero => intro a line h; omega
  | succ n ih =>
    intro a line hn ha he0
    by_cases hlt : a < L.length
    · obtain ⟨c, r, hcr⟩ : ∃ c r, L.drop a = c :: r := ⟨L[a], L.drop (a + 1), List.drop_eq_getElem_cons hlt⟩
      have hr : L.drop (a + 1) = r := by
        have := congrArg (List.drop 1) hcr
        rw [List.drop_drop] at this
        exact this
      have hrl : r.length = L.length - (a + 1) := by rw [← hr, List.length_drop]
      rw [hcr] at he0 ⊢
      have h1 := tokLen_pos c r
      have h4 := tokLen_le c r
      rw [List.length_cons] at h4
      by_cases hb : blankB (c.toNat : Int) = true
      · rw [T_blank c r a line hb] at he0 ⊢
        rw [← hr] at he0 ⊢
        exact placed_mono L _ _ _ _ (Nat.le_succ a) (ih (a + 1) line (by omega) (by omega) he0)
      · have hb' : blankB (c.toNat : Int) = false := by simpa using hb
        by_cases h35 : c.toNat = 35
        · rw [T_remark c r a line hb' h35] at he0 ⊢
          have hd : r.dropWhile nlC = L.drop (a + 1 + (r.takeWhile nlC).length) := by rw [dropWhile_drop, ← List.drop_drop, hr]
          have h2 := takeWhile_le nlC r
          rw [hd] at he0 ⊢
          exact placed_mono L _ _ _ _ (by omega) (ih _ line (by omega) (by omega) he0)
        · by_cases he : (readN (c :: r)).2 = 0
          · have hg := read_good c r hb' h35 he
            rw [T_tok c r a line hb' h35 he] at he0 ⊢
            have hdr : (c :: r).drop (tokLen (c :: r)) = L.drop (a + tokLen (c :: r)) := by rw [← hcr, List.drop_drop]
            rw [hdr] at he0 ⊢
            unfold consT at he0 ⊢
            split
            · trivial
            · rename_i hq
              have hq' : (T (L.drop (a + tokLen (c :: r))) (a + tokLen (c :: r)) (nextLn (c :: r) line)).2.2 = 0 := Decidable.byContradiction hq
              have hw : wrP (tokOf (c :: r) a line) = (c :: r).take (tokLen (c :: r)) := hg.wr
              have hwl : ((c :: r).take (tokLen (c :: r))).length = tokLen (c :: r) := by rw [List.length_take, List.length_cons]; omega
              refine ⟨a, rfl, rfl, Nat.le_refl _, by rw [hw, hwl]; omega, by rw [hw, hwl]; omega, by rw [hw, hwl, hcr], hg.kind, ?_⟩
              rw [hw, hwl]
              exact ih _ _ (by omega) (by omega) hq'
          · rw [T_bad c r a line hb' h35 he] at he0
            exact absurd he0 he
    · have e : L.drop a = [] := List.drop_of_length_le (by omega)
      rw [e, T_nil]
      trivial
/-- An error's place; and that the text ahead of its line is read. -/
theorem T_ahead (L : List UInt8) : ∀ (n : Nat) (a line : Nat), L.length - a < n → a ≤ L.length → (T (L.drop a) a line).2.2 ≠ 0 →
    ∃ p : Nat, (T (L.drop a) a line).2.1 = (p : Int) ∧ a ≤ p ∧ p < L.length ∧ ∀ k line', a ≤ k → k ≤ p → (k = a ∨ (L.getD (k - 1) 0).toNat = 10) → (T ((L.drop a).take (k - a)) a line').2.2 = 0 := by
  intro n
  induction n with
  | zero => intro a line h; omega
  | succ n ih =>
    intro a line hn ha he0
    by_cases hlt : a < L.length
    · obtain ⟨c, r, hcr⟩ : ∃ c r, L.drop a = c :: r := ⟨L[a], L.drop (a + 1), List.drop_eq_getElem_cons hlt⟩
      have hr : L.drop (a + 1) = r := by
        have := congrArg (List.drop 1) hcr
        rw [List.drop_drop] at this
        exact this
      have hrl : r.length = L.length - (a + 1) := by rw [← hr, List.length_drop]
      have hat : ∀ j, j < (c :: r).length → L.getD (a + j) 0 = (c :: r).getD j 0 := fun j hj => by
        rw [← hcr, List.getD_eq_getElem?_getD, List.getD_eq_getElem?_getD, List.getElem?_drop]
      rw [hcr] at he0 ⊢
      have h1 := tokLen_pos c r
      have h4 := tokLen_le c r
      rw [List.length_cons] at h4
      by_cases hb : blankB (c.toNat : Int) = true
      · rw [T_blank c r a line hb] at he0 ⊢
        rw [← hr] at he0 ⊢
        obtain ⟨p, hp, hap, hpl, hk⟩ := ih (a + 1) line (by omega) (by omega) he0
        refine ⟨p, hp, by omega, hpl, fun k line' hak hkp hor => ?_⟩
        by_cases hka : k = a
        · subst hka; rw [Nat.sub_self, List.take_zero]; rfl
        · rw [hr, show k - a = (k - (a + 1)) + 1 by omega, List.take_succ_cons, T_blank c _ a line' hb, ← hr]
          refine hk k line' (by omega) hkp ?_
          rcases hor with h | h
          · exact absurd h hka
          · exact .inr h
      · have hb' : blankB (c.toNat : Int) = false := by simpa using hb
        by_cases h35 : c.toNat = 35
        · rw [T_remark c r a line hb' h35] at he0 ⊢
          have h2 := takeWhile_le nlC r
          have hd : r.dropWhile nlC = L.drop (a + 1 + (r.takeWhile nlC).length) := by rw [dropWhile_drop, ← List.drop_drop, hr]
          rw [hd] at he0 ⊢
          obtain ⟨p, hp, hap, hpl, hk⟩ := ih (a + 1 + (r.takeWhile nlC).length) line (by omega) (by omega) he0
          refine ⟨p, hp, by omega, hpl, fun k line' hak hkp hor => ?_⟩
          by_cases hka : k = a
          · subst hka; rw [Nat.sub_self, List.take_zero]; rfl
          · have h10 : (L.getD (k - 1) 0).toNat = 10 := hor.resolve_left hka
            have hkq : a + 1 + (r.takeWhile nlC).length < k := by
              rcases Nat.lt_or_ge (a + 1 + (r.takeWhile nlC).length) k with h | h
              · exact h
              · exfalso
                have e : k - 1 = a + (k - 1 - a) := by omega
                rw [e, hat (k - 1 - a) (by rw [List.length_cons]; omega)] at h10
                by_cases hz : k - 1 - a = 0
                · rw [hz] at h10
                  have : c.toNat = 10 := h10
                  omega
                · obtain ⟨j, hj⟩ : ∃ j, k - 1 - a = j + 1 := ⟨k - 1 - a - 1, by omega⟩
                  rw [hj, List.getD_cons_succ] at h10
                  have hjl : j < (r.takeWhile nlC).length := by omega
                  have hmem : (r.takeWhile nlC)[j] ∈ r.takeWhile nlC := List.getElem_mem hjl
                  have hnl := tw_imp hmem
                  have hpre := List.takeWhile_prefix nlC (l := r)
                  have hge : (r.takeWhile nlC)[j] = r[j]'(by omega) := List.IsPrefix.getElem hpre hjl
                  rw [hge] at hnl
                  rw [List.getD_eq_getElem?_getD, List.getElem?_eq_getElem (by omega)] at h10
                  exact absurd h10 (of_decide_eq_true hnl)
            rw [show k - a = (k - (a + 1)) + 1 by omega, List.take_succ_cons, T_remark c _ a line' hb' h35, takeWhile_take nlC r _ (by omega), dropWhile_drop, takeWhile_take nlC r _ (by omega), List.drop_take, ← hr, List.drop_drop, hr]
            have := hk k line' (by omega) hkp (.inr h10)
            rw [show k - (a + 1) - (r.takeWhile nlC).length = k - (a + 1 + (r.takeWhile nlC).length) by omega]
            exact this
        · by_cases he : (readN (c :: r)).2 = 0
          · have hg := read_good c r hb' h35 he
            rw [T_tok c r a line hb' h35 he] at he0 ⊢
            have hdr : (c :: r).drop (tokLen (c :: r)) = L.drop (a + tokLen (c :: r)) := by rw [← hcr, List.drop_drop]
            rw [hdr] at he0 ⊢
            have hq : (T (L.drop (a + tokLen (c :: r))) (a + tokLen (c :: r)) (nextLn (c :: r) line)).2.2 ≠ 0 := by
              intro h
              unfold consT at he0
              rw [if_neg (fun h' => h' h)] at he0
              exact he0 rfl
            obtain ⟨p, hp, hap, hpl, hk⟩ := ih (a + tokLen (c :: r)) (nextLn (c :: r) line) (by omega) (by omega) hq
            refine ⟨p, by unfold consT; rw [if_pos hq]; exact hp, by omega, hpl, fun k line' hak hkp hor => ?_⟩
            by_cases hka : k = a
            · subst hka; rw [Nat.sub_self, List.take_zero]; rfl
            · have h10 : (L.getD (k - 1) 0).toNat = 10 := hor.resolve_left hka
              have hkn : a + tokLen (c :: r) ≤ k := by
                rcases Nat.lt_or_ge k (a + tokLen (c :: r)) with h | h
                · exfalso
                  have e : k - 1 = a + (k - 1 - a) := by omega
                  rw [e, hat (k - 1 - a) (by rw [List.length_cons]; omega)] at h10
                  have hin : (c :: r).getD (k - 1 - a) 0 ∈ (c :: r).take (tokLen (c :: r)) := by
                    rw [List.getD_eq_getElem?_getD, List.getElem?_eq_getElem (by rw [List.length_cons]; omega)]
                    exact List.mem_take_iff_getElem.2 ⟨k - 1 - a, by rw [List.length_cons]; omega, rfl⟩
                  obtain ⟨c', r', hp', _, _, hrun, hsg⟩ := hg.head
                  by_cases hbg : beginsB (c'.toNat : Int) = true
                  · rw [hp'] at hin
                    rcases List.mem_cons.1 hin with hin | hin
                    · rw [hin] at h10
                      rw [h10] at hbg
                      exact absurd hbg (by decide)
                    · have := (hrun hbg).2 _ hin
                      unfold goesC at this
                      rw [h10] at this
                      exact absurd this (by decide)
                  · rcases hsg (by simpa using hbg) with h' | h'
                    · have : tokLen (c :: r) = 1 := by
                        have := congrArg List.length h'
                        rw [List.length_take, List.length_cons] at this
                        simp at this
                        omega
                      omega
                    · obtain ⟨_, _, _, _, _, hno⟩ := sg_head _ h'
                      exact hno _ hin h10
                · exact h
              have htk := tokLen_take c r hb' h35 he (k - a) (by omega)
              obtain ⟨m, hm⟩ : ∃ m, k - a = m + 1 := ⟨k - a - 1, by omega⟩
              have hrd : readN ((c :: r).take (k - a)) = readN (c :: r) := by
                unfold readN
                rw [htk, List.take_take, Nat.min_eq_left (by omega)]
              rw [hm, List.take_succ_cons] at htk hrd
              rw [hm, List.take_succ_cons, T_tok c _ a line' hb' h35 (by rw [hrd]; exact he)]
              unfold consT
              rw [htk]
              have h3 := hk k (nextLn (c :: r.take m) line') hkn hkp (.inr h10)
              have hdd : (c :: r.take m).drop (tokLen (c :: r)) = (L.drop (a + tokLen (c :: r))).take (k - (a + tokLen (c :: r))) := by
                rw [← List.take_succ_cons, ← hm, List.drop_take, hdr]
                congr 1
                omega
              rw [hdd, if_neg (fun h => h h3)]
          · rw [T_bad c r a line hb' h35 he]
            refine ⟨a, rfl, Nat.le_refl _, hlt, fun k line' hak hkp _ => ?_⟩
            have : k = a := by omega
            subst this
            rw [Nat.sub_self, List.take_zero]
            rfl
    · have e : L.drop a = [] := List.drop_of_length_le (by omega)
      rw [e, T_nil] at he0
      exact absurd rfl he0

/-! ## Two texts -/
theorem decodeN_tail (n n' b0 b1 b2 b3 b1' b2' b3' : Nat) (hn : n ≤ n') (h1 : 1 < n → b1' = b1) (h2 : 2 < n → b2' = b2) (h3 : 3 < n → b3' = b3)
    (g1 : ¬ 1 < n → b1' / 64 ≠ 2 ∨ ¬ 1 < n') (g2 : 1 < n → ¬ 2 < n → b2' / 64 ≠ 2 ∨ ¬ 2 < n') (g3 : 2 < n → ¬ 3 < n → b3' / 64 ≠ 2 ∨ ¬ 3 < n') : Lib.decodeN n' b0 b1' b2' b3' = Lib.decodeN n b0 b1 b2 b3 := by
  have c1 : (1 < n' ∧ b1' / 64 = 2) = (1 < n ∧ b1 / 64 = 2) := propext (by
    by_cases h : 1 < n
    · rw [h1 h]; constructor <;> (intro x; omega)
    · have := g1 h; constructor <;> (intro x; omega))
  by_cases q1 : 1 < n ∧ b1 / 64 = 2
  · have e1 := h1 q1.1
    have c2 : (2 < n' ∧ b2' / 64 = 2) = (2 < n ∧ b2 / 64 = 2) := propext (by
      by_cases h : 2 < n
      · rw [h2 h]; constructor <;> (intro x; omega)
      · have := g2 q1.1 h; constructor <;> (intro x; omega))
    by_cases q2 : 2 < n ∧ b2 / 64 = 2
    · have e2 := h2 q2.1
      have c3 : (3 < n' ∧ b3' / 64 = 2) = (3 < n ∧ b3 / 64 = 2) := propext (by
        by_cases h : 3 < n
        · rw [h3 h]; constructor <;> (intro x; omega)
        · have := g3 q2.1 h; constructor <;> (intro x; omega))
      by_cases q3 : 3 < n ∧ b3 / 64 = 2
      · have e3 := h3 q3.1
        unfold Lib.decodeN
        subst e1 e2 e3
        simp only [c1, c2, c3]
      · unfold Lib.decodeN
        subst e1 e2
        simp only [c1, c2, c3]
        simp only [q3, and_false, if_false]
    · unfold Lib.decodeN
      subst e1
      simp only [c1, c2]
      simp only [q2, and_false, if_false, false_and]
  · unfold Lib.decodeN
    simp only [c1, q1, and_false, if_false, false_and]
theorem decL_append (c : UInt8) (r sep : List UInt8) (hs : ∀ d, sep.head? = some d → d.toNat < 128) : decL ((c :: r) ++ sep) = decL (c :: r) := by
  unfold decL
  have hd : ∀ (l : List UInt8) (j : Nat), l.length = j → (l ++ sep).getD j 0 = sep.headD 0 := fun l j h => by
    rw [List.getD_eq_getElem?_getD, List.getElem?_append_right (by omega), h, Nat.sub_self]
    cases sep <;> rfl
  have hin : ∀ (l : List UInt8) (j : Nat), j < l.length → (l ++ sep).getD j 0 = l.getD j 0 := fun l j h => by
    rw [List.getD_eq_getElem?_getD, List.getD_eq_getElem?_getD, List.getElem?_append_left h]
  have h128 : (sep.headD 0).toNat / 64 ≠ 2 := by
    cases sep with
    | nil => decide
    | cons d s => have := hs d rfl; simp; omega
  have h0 := hin (c :: r) 0 (by simp)
  rw [h0]
  refine decodeN_tail _ _ _ _ _ _ _ _ _ (by rw [List.length_append]; omega) (fun h => by rw [hin _ _ h]) (fun h => by rw [hin _ _ h]) (fun h => by rw [hin _ _ h]) (fun h => .inl ?_) (fun h h' => .inl ?_) (fun h h' => .inl ?_)
  · rw [hd _ 1 (by rw [List.length_cons] at h ⊢; omega)]; exact h128
  · rw [hd _ 2 (by omega)]; exact h128
  · rw [hd _ 3 (by omega)]; exact h128
theorem tokLen_append (c : UInt8) (r sep : List UInt8) (hs : ∀ d, sep.head? = some d → d.toNat < 128 ∧ goesC d = false) : tokLen ((c :: r) ++ sep) = tokLen (c :: r) := by
  rw [List.cons_append]
  simp only [tokLen]
  split
  · congr 1
    have : ∀ r : List UInt8, ((r ++ sep).takeWhile goesC).length = (r.takeWhile goesC).length := by
      intro r
      induction r with
      | nil =>
        cases sep with
        | nil => rfl
        | cons d s => rw [List.nil_append, List.takeWhile_cons, (hs d rfl).2]; rfl
      | cons e r ih =>
        rw [List.cons_append, List.takeWhile_cons, List.takeWhile_cons]
        split
        · rw [List.length_cons, List.length_cons, ih]
        · rfl
    exact this r
  · rw [← List.cons_append, decL_append c r sep (fun d h => (hs d h).1)]
def joinT (ts : List Tok) (q : List Tok × Int × Int) : List Tok × Int × Int := if q.2.2 ≠ 0 then ([], q.2.1, q.2.2) else (ts ++ q.1, 0, 0)
theorem joinT_cons (t : Tok) (ts : List Tok) (q : List Tok × Int × Int) : consT t (joinT ts q) = joinT (t :: ts) q := by
  by_cases h : q.2.2 = 0
  · have e1 : joinT ts q = (ts ++ q.1, 0, 0) := if_neg (fun h' => h' h)
    have e2 : joinT (t :: ts) q = (t :: ts ++ q.1, 0, 0) := if_neg (fun h' => h' h)
    rw [e1, e2]
    rfl
  · have e1 : joinT ts q = ([], q.2.1, q.2.2) := if_pos h
    have e2 : joinT (t :: ts) q = ([], q.2.1, q.2.2) := if_pos h
    rw [e1, e2]
    exact if_pos h
theorem joinT_nil (l : List UInt8) (a line : Nat) : joinT [] (T l a line) = T l a line := by
  have hc := T_clean _ l a line (Nat.lt_succ_self _)
  obtain ⟨X, hX⟩ : ∃ X, T l a line = X := ⟨_, rfl⟩
  rw [hX] at hc ⊢
  obtain ⟨x, y, z⟩ := X
  by_cases h : z = 0
  · have e : joinT [] (x, y, z) = ([] ++ x, 0, 0) := if_neg (fun h' => h' h)
    have hy : y = 0 := hc.1 h
    rw [e, hy, h]
    rfl
  · have e : joinT [] (x, y, z) = ([], y, z) := if_pos h
    have hx : x = [] := hc.2 h
    rw [e, hx]
/-- Behind a text a row of blanks and a remark, to the line's end. -/
theorem T_join (sep rest : List UInt8) (hno : ∀ d ∈ sep, nlC d = true) (hne : sep ≠ []) (hs : ∀ d, sep.head? = some d → d.toNat < 128 ∧ goesC d = false)
    (hskip : ∀ a line, T (sep ++ 10 :: rest) a line = T (10 :: rest) (a + sep.length) line) :
    ∀ (n : Nat) (l : List UInt8) (a line : Nat), l.length < n → ∃ line', T (l ++ (sep ++ 10 :: rest)) a line = if (T l a line).2.2 ≠ 0 then T l a line else joinT (T l a line).1 (T (10 :: rest) (a + l.length + sep.length) line') := by
  intro n
  induction n with
  | zero => intro l a line h; omega
  | succ n ih =>
    intro l a line h
    cases l with
    | nil => exact ⟨line, by rw [List.nil_append, hskip, T_nil, if_neg (fun h => h rfl), joinT_nil]; rfl⟩
    | cons c r =>
      have h1 := tokLen_pos c r
      have h4 := tokLen_le c r
      simp only [List.length_cons] at h h4
      by_cases hb : blankB (c.toNat : Int) = true
      · obtain ⟨line', hl⟩ := ih r (a + 1) line (by omega)
        refine ⟨line', ?_⟩
        rw [List.cons_append, T_blank c _ a line hb, T_blank c r a line hb, hl, List.length_cons, show a + (r.length + 1) + sep.length = a + 1 + r.length + sep.length by omega]
      · have hb' : blankB (c.toNat : Int) = false := by simpa using hb
        by_cases h35 : c.toNat = 35
        · rw [List.cons_append, T_remark c _ a line hb' h35, T_remark c r a line hb' h35]
          by_cases hall : ∀ d ∈ r, nlC d = true
          · have e1 : (r ++ (sep ++ 10 :: rest)).takeWhile nlC = r ++ sep := by
              rw [takeWhile_append_all hall, takeWhile_append_all hno, List.takeWhile_cons, if_neg (by decide), List.append_nil]
            have e2 : (r ++ (sep ++ 10 :: rest)).dropWhile nlC = 10 :: rest := by
              rw [dropWhile_drop, e1, ← List.append_assoc, List.drop_left]
            have e3 : r.takeWhile nlC = r := takeWhile_all hall
            have e4 : r.dropWhile nlC = [] := by rw [dropWhile_drop, e3, List.drop_length]
            refine ⟨line, ?_⟩
            rw [e1, e2, e3, e4, T_nil, if_neg (fun h => h rfl), joinT_nil, List.length_append, List.length_cons]
            congr 1
            omega
          · have hex : ∃ d ∈ r, nlC d = false := by
              by_cases hx : ∃ d ∈ r, nlC d = false
              · exact hx
              · exact absurd (fun d hd => by
                  cases hd' : nlC d
                  · exact absurd ⟨d, hd, hd'⟩ hx
                  · rfl) hall
            have e1 : ∀ (r : List UInt8), (∃ d ∈ r, nlC d = false) → (r ++ (sep ++ 10 :: rest)).takeWhile nlC = r.takeWhile nlC := by
              intro r
              induction r with
              | nil => rintro ⟨d, hd, _⟩; cases hd
              | cons e r ih =>
                rintro ⟨d, hd, hdn⟩
                rw [List.cons_append, List.takeWhile_cons, List.takeWhile_cons]
                by_cases he : nlC e = true
                · rw [if_pos he, if_pos he, ih]
                  rcases List.mem_cons.1 hd with rfl | hd
                  · rw [hdn] at he; cases he
                  · exact ⟨d, hd, hdn⟩
                · rw [if_neg he, if_neg he]
            have h2 := takeWhile_le nlC r
            have e2 : (r ++ (sep ++ 10 :: rest)).dropWhile nlC = r.dropWhile nlC ++ (sep ++ 10 :: rest) := by
              rw [dropWhile_drop, dropWhile_drop, e1 r hex, List.drop_append_of_le_length h2]
            rw [e1 r hex, e2]
            have hdl : (r.dropWhile nlC).length = r.length - (r.takeWhile nlC).length := by rw [dropWhile_drop, List.length_drop]
            obtain ⟨line', hl⟩ := ih (r.dropWhile nlC) (a + 1 + (r.takeWhile nlC).length) line (by omega)
            refine ⟨line', ?_⟩
            rw [hl, hdl, List.length_cons, show a + 1 + (r.takeWhile nlC).length + (r.length - (r.takeWhile nlC).length) + sep.length = a + (r.length + 1) + sep.length by omega]
        · have hhead : ∀ d, (sep ++ 10 :: rest).head? = some d → d.toNat < 128 ∧ goesC d = false := fun d hd => by
            cases sep with
            | nil => exact absurd rfl hne
            | cons e s => exact hs d hd
          have htl := tokLen_append c r (sep ++ 10 :: rest) hhead
          have hrd : readN ((c :: r) ++ (sep ++ 10 :: rest)) = readN (c :: r) := by
            unfold readN
            rw [htl, List.take_append_of_le_length (by rw [List.length_cons]; exact h4)]
          have hdr : ((c :: r) ++ (sep ++ 10 :: rest)).drop (tokLen (c :: r)) = (c :: r).drop (tokLen (c :: r)) ++ (sep ++ 10 :: rest) := List.drop_append_of_le_length (by rw [List.length_cons]; exact h4)
          rw [List.cons_append] at htl hrd hdr ⊢
          by_cases he : (readN (c :: r)).2 = 0
          · rw [T_tok c _ a line hb' h35 (by rw [hrd]; exact he), T_tok c r a line hb' h35 he, htl, hdr]
            have et : tokOf (c :: (r ++ (sep ++ 10 :: rest))) a line = tokOf (c :: r) a line := by unfold tokOf; rw [hrd]
            have en : nextLn (c :: (r ++ (sep ++ 10 :: rest))) line = nextLn (c :: r) line := by unfold nextLn; rw [hrd]
            rw [et, en]
            obtain ⟨line', hl⟩ := ih ((c :: r).drop (tokLen (c :: r))) (a + tokLen (c :: r)) (nextLn (c :: r) line) (by rw [List.length_drop, List.length_cons]; omega)
            refine ⟨line', ?_⟩
            rw [hl]
            obtain ⟨X, hX⟩ : ∃ X, T ((c :: r).drop (tokLen (c :: r))) (a + tokLen (c :: r)) (nextLn (c :: r) line) = X := ⟨_, rfl⟩
            rw [hX]
            by_cases hq : X.2.2 = 0
            · have e : consT (tokOf (c :: r) a line) X = (tokOf (c :: r) a line :: X.1, 0, 0) := by unfold consT; rw [if_neg (fun h => h hq)]
              rw [e, if_neg (fun h => h hq), if_neg (fun h => h rfl), joinT_cons, List.length_drop, List.length_cons, show a + tokLen (c :: r) + (r.length + 1 - tokLen (c :: r)) + sep.length = a + (r.length + 1) + sep.length by omega]
            · have e : consT (tokOf (c :: r) a line) X = ([], X.2.1, X.2.2) := by unfold consT; rw [if_pos hq]
              rw [e, if_pos hq, if_pos hq]
              exact e
          · exact ⟨line, by rw [T_bad c _ a line hb' h35 (by rw [hrd]; exact he), T_bad c r a line hb' h35 he, hrd, if_pos he]⟩
/-- Places and lines are all that a text's own place turns. -/
theorem T_shift : ∀ (n : Nat) (l : List UInt8) (a b line line' : Nat), l.length < n → (T l a line).1.map Tok.core = (T l b line').1.map Tok.core ∧ (T l a line).2.2 = (T l b line').2.2 ∧ ((T l a line).2.2 ≠ 0 → (T l a line).2.1 - (a : Int) = (T l b line').2.1 - (b : Int)) := by
  intro n
  induction n with
  | zero => intro l a b line line' h; omega
  | succ n ih =>
    intro l a b line line' h
    cases l with
    | nil => exact ⟨rfl, rfl, fun h => absurd rfl h⟩
    | cons c r =>
      have h1 := tokLen_pos c r
      simp only [List.length_cons] at h
      by_cases hb : blankB (c.toNat : Int) = true
      · rw [T_blank c r a line hb, T_blank c r b line' hb]
        obtain ⟨q1, q2, q3⟩ := ih r (a + 1) (b + 1) line line' (by omega)
        exact ⟨q1, q2, fun h => by have := q3 h; push_cast at this; omega⟩
      · have hb' : blankB (c.toNat : Int) = false := by simpa using hb
        by_cases h35 : c.toNat = 35
        · rw [T_remark c r a line hb' h35, T_remark c r b line' hb' h35]
          obtain ⟨q1, q2, q3⟩ := ih (r.dropWhile nlC) (a + 1 + (r.takeWhile nlC).length) (b + 1 + (r.takeWhile nlC).length) line line' (by rw [dropWhile_drop, List.length_drop]; omega)
          exact ⟨q1, q2, fun h => by have := q3 h; push_cast at this; omega⟩
        · by_cases he : (readN (c :: r)).2 = 0
          · rw [T_tok c r a line hb' h35 he, T_tok c r b line' hb' h35 he]
            obtain ⟨q1, q2, q3⟩ := ih ((c :: r).drop (tokLen (c :: r))) (a + tokLen (c :: r)) (b + tokLen (c :: r)) (nextLn (c :: r) line) (nextLn (c :: r) line') (by rw [List.length_drop, List.length_cons]; omega)
            unfold consT
            rw [← q2]
            split
            · rename_i hq
              exact ⟨rfl, rfl, fun h => by have := q3 h; push_cast at this; simp only; omega⟩
            · exact ⟨by rw [List.map_cons, List.map_cons, q1]; rfl, rfl, fun h => absurd rfl h⟩
          · rw [T_bad c r a line hb' h35 he, T_bad c r b line' hb' h35 he]
            exact ⟨rfl, rfl, fun _ => by simp⟩
end Go.Proofs.YtonihjijienigaaDoor
