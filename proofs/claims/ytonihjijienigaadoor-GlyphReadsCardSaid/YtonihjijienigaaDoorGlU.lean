/- Layer 2 (glyph): what is read is what is written; tokens do not depend on what stands behind. -/
import Derived.Test.YtonihjijienigaaDoorGlQ
import Derived.Test.YtonihjijienigaaDoorGlCo
namespace Go.Proofs.YtonihjijienigaaDoor
open Go.RowKit

theorem parse_unsnoc (M : Nat) (c : UInt8) : ∀ (l : List UInt8) (acc u : Nat), Lib.parseUintM M acc (l ++ [c]) = .ok u → ∃ v, Lib.parseUintM M acc l = .ok v ∧ isDg c ∧ u = v * 10 + (c.toNat - 48) := by
  intro l
  induction l with
  | nil =>
    intro acc u h
    simp only [List.nil_append, Lib.parseUintM] at h
    split at h
    · rename_i h1
      split at h
      · cases h
      · split at h
        · cases h
        · injection h with h
          exact ⟨acc, rfl, h1, h.symm⟩
    · cases h
  | cons d l ih =>
    intro acc u h
    rw [List.cons_append] at h
    simp only [Lib.parseUintM] at h ⊢
    split at h
    · rename_i h1
      rw [if_pos h1]
      split at h
      · cases h
      · rename_i h2
        rw [if_neg h2]
        split at h
        · cases h
        · rename_i h3
          rw [if_neg h3]
          exact ih _ _ h
    · cases h
theorem dgByte_of {c : UInt8} (h : isDg c) : UInt8.ofNat (48 + (c.toNat - 48)) = c := by
  have e : 48 + (c.toNat - 48) = c.toNat := by unfold isDg at h; omega
  rw [e]
  simp
theorem dec_parse (M : Nat) : ∀ (n : Nat) (p : List UInt8) (u : Nat), p.length = n → p ≠ [] → Lib.parseUintM M 0 p = .ok u → (1 < p.length → (p.headD 0).toNat ≠ 48) → Lib.decDigits u = p ∧ ((p.headD 0).toNat ≠ 48 → 1 ≤ u) := by
  intro n
  induction n with
  | zero => intro p u h hne; exact absurd (List.eq_nil_of_length_eq_zero h) hne
  | succ n ih =>
    intro p u hl hne hp hh
    obtain ⟨l, c, rfl⟩ : ∃ l c, p = l ++ [c] := ⟨p.dropLast, p.getLast hne, (List.dropLast_concat_getLast hne).symm⟩
    obtain ⟨v, hv, hc, rfl⟩ := parse_unsnoc M c l 0 u hp
    have hc' := hc
    unfold isDg at hc'
    cases l with
    | nil =>
      simp only [Lib.parseUintM] at hv
      injection hv with hv
      subst hv
      rw [Lib.decDigits_one (by omega), Nat.zero_mul, Nat.zero_add, dgByte_of hc]
      exact ⟨rfl, fun h => by simp at h; omega⟩
    | cons d l =>
      have hd : (d.toNat ≠ 48) := by
        have := hh (by simp)
        simpa using this
      obtain ⟨h1, h2⟩ := ih (d :: l) v (by simpa using hl) (by simp) hv (fun _ => by simpa using hd)
      have hv1 := h2 (by simpa using hd)
      rw [Lib.decDigits, dif_neg (by omega), show (v * 10 + (c.toNat - 48)) / 10 = v by omega, show (v * 10 + (c.toNat - 48)) % 10 = c.toNat - 48 by omega, h1, dgByte_of hc]
      exact ⟨rfl, fun _ => by omega⟩

theorem isSign_mem {p : List UInt8} (h : isSign (Bq p) = true) : p ∈ sgL := by
  unfold isSign at h
  rw [List.any_eq_true] at h
  obtain ⟨l, hl, he⟩ := h
  have := Bq_inj (a := l) (b := p) (of_decide_eq_true he)
  rw [← this]
  exact hl
theorem sg_dec : ∀ p ∈ sgL, ∀ rest, (decL (p ++ rest)).2 = p.length := by
  intro p hp rest
  simp only [sgL, List.mem_cons, List.not_mem_nil, or_false] at hp
  rcases hp with rfl | rfl | rfl | rfl | rfl | rfl | rfl | rfl | rfl | rfl | rfl | rfl
  all_goals simp [decL, Lib.decodeN]
theorem sg_head : ∀ p ∈ sgL, ∃ c r, p = c :: r ∧ beginsB (c.toNat : Int) = false ∧ c.toNat ≠ 10 ∧ (∀ d ∈ p, d.toNat ≠ 10) := by
  intro p hp
  simp only [sgL, List.mem_cons, List.not_mem_nil, or_false] at hp
  rcases hp with rfl | rfl | rfl | rfl | rfl | rfl | rfl | rfl | rfl | rfl | rfl | rfl
  all_goals exact ⟨_, _, rfl, by decide, by decide, by decide⟩

theorem tw_imp {p : UInt8 → Bool} {d : UInt8} : ∀ {l : List UInt8}, d ∈ l.takeWhile p → p d = true := by
  intro l
  induction l with
  | nil => intro h; cases h
  | cons c l ih =>
    intro h
    rw [List.takeWhile_cons] at h
    split at h
    · rename_i hc
      rcases List.mem_cons.1 h with rfl | h
      · exact hc
      · exact ih h
    · cases h

/-- A token's text: what it is read as, and as what it is written. -/
structure Good (t : Tok) (p : List UInt8) : Prop where
  wr : wrP t = p
  err : (readP (Bq p)).2 = 0
  core : (readP (Bq p)).1.core = t.core
  kind : 0 ≤ t.kind ∧ t.kind ≤ 3
  num : t.num < 18446744073709551616
  text : t.text.size ≤ 70000
  nl : t.kind = 3 → p = [10]
  head : ∃ c r, p = c :: r ∧ blankB (c.toNat : Int) = false ∧ c.toNat ≠ 35 ∧ (beginsB (c.toNat : Int) = true → t.kind ≠ 3 ∧ ∀ d ∈ r, goesC d = true) ∧ (beginsB (c.toNat : Int) = false → p = [10] ∨ p ∈ sgL)

theorem read_good (c : UInt8) (r : List UInt8) (hb : blankB (c.toNat : Int) = false) (h35 : c.toNat ≠ 35) (he : (readN (c :: r)).2 = 0) : Good (readN (c :: r)).1 ((c :: r).take (tokLen (c :: r))) := by
  have hpos := tokLen_pos c r
  obtain ⟨m, hm⟩ : ∃ m, tokLen (c :: r) = m + 1 := ⟨tokLen (c :: r) - 1, by omega⟩
  have hp : (c :: r).take (tokLen (c :: r)) = c :: r.take m := by rw [hm]; rfl
  have hrd : readN (c :: r) = readP (Bq (c :: r.take m)) := by unfold readN; rw [hp]
  rw [hrd] at he ⊢
  rw [hp]
  have hrun : beginsB (c.toNat : Int) = true → ∀ d ∈ r.take m, goesC d = true := fun hbg d hd => by
    have : m = (r.takeWhile goesC).length := by
      simp only [tokLen] at hm
      rw [if_pos hbg] at hm
      omega
    rw [this] at hd
    have h2 : r.take (r.takeWhile goesC).length = r.takeWhile goesC := by
      have := (List.takeWhile_prefix goesC (l := r))
      exact (List.prefix_iff_eq_take.1 this).symm
    rw [h2] at hd
    exact tw_imp hd
  have hget : (Bq (c :: r.take m)).get! 0 = c := Bq_get0 _ _
  unfold readP at he ⊢
  rw [hget] at he ⊢
  by_cases h10 : c.toNat = 10
  · rw [if_pos h10] at he ⊢
    have hm0 : m = 0 := by
      simp only [tokLen] at hm
      rw [if_neg (by rw [h10]; decide), decL_ascii c r (by omega)] at hm
      simp only at hm
      omega
    subst hm0
    have hc : c = 10 := by
      apply UInt8.toNat_inj.1
      rw [h10]; rfl
    subst hc
    exact ⟨rfl, rfl, rfl, ⟨by decide, by decide⟩, by decide, Nat.zero_le _, fun _ => rfl, 10, _, rfl, hb, h35, fun h => absurd h (by decide), fun _ => .inl rfl⟩
  · rw [if_neg h10] at he ⊢
    by_cases hdg : digitB (c.toNat : Int) = true
    · rw [if_pos hdg] at he ⊢
      have hbg : beginsB (c.toNat : Int) = true := by unfold beginsB; rw [hdg]; simp
      have hnp := he
      unfold numP at hnp ⊢
      rw [Bq_data] at hnp ⊢
      cases hpu : Lib.parseUintB 64 (c :: r.take m) with
      | ok u =>
        rw [hpu] at hnp
        simp only at hnp ⊢
        rw [hget] at hnp ⊢
        by_cases hz : 1 < (Bq (c :: r.take m)).size ∧ c.toNat = 48
        · rw [if_pos hz] at hnp; cases hnp
        · rw [if_neg hz] at hnp ⊢
          have hpu' := hpu
          unfold Lib.parseUintB at hpu'
          rw [if_neg (by simp)] at hpu'
          have hd := dec_parse _ _ (c :: r.take m) u rfl (by simp) hpu' (fun h => by
            intro h48
            exact hz ⟨by rw [Bq_size]; exact h, by simpa using h48⟩)
          have hle := Lib.parseUintB_le hpu
          refine ⟨?_, ?_, ?_, ⟨(by decide : (0 : Int) ≤ 1), (by decide : (1 : Int) ≤ 3)⟩, by simp at hle ⊢; omega, Nat.zero_le _, fun h => absurd h (by decide : ¬ (1 : Int) = 3), c, _, rfl, hb, h35, fun _ => ⟨(by decide : (1 : Int) ≠ 3), hrun hbg⟩, fun h => by rw [hbg] at h; cases h⟩
          · unfold wrP
            rw [if_pos rfl]
            exact hd.1
          · unfold readP
            rw [hget, if_neg h10, if_pos hdg]
            exact he
          · unfold readP
            rw [hget, if_neg h10, if_pos hdg]
            unfold numP
            rw [Bq_data, hpu]
            simp only
            rw [hget, if_neg hz]
      | «syntax» => rw [hpu] at hnp; cases hnp
      | range => rw [hpu] at hnp; cases hnp
    · rw [if_neg hdg] at he ⊢
      by_cases hlt : letterB (c.toNat : Int) = true
      · rw [if_pos hlt] at he ⊢
        have hbg : beginsB (c.toNat : Int) = true := by unfold beginsB; rw [hlt]; simp
        by_cases h24 : 24 < (Bq (c :: r.take m)).size
        · simp only at he; rw [if_pos h24] at he; cases he
        · simp only at he ⊢
          rw [if_neg h24]
          refine ⟨rfl, ?_, ?_, ⟨(by decide : (0 : Int) ≤ 0), (by decide : (0 : Int) ≤ 3)⟩, (by decide : (0 : Nat) < 18446744073709551616), by show (Bq (c :: r.take m)).size ≤ 70000; omega, fun h => absurd h (by decide : ¬ (0 : Int) = 3), c, _, rfl, hb, h35, fun _ => ⟨(by decide : (0 : Int) ≠ 3), hrun hbg⟩, fun h => by rw [hbg] at h; cases h⟩
          · unfold readP
            rw [hget, if_neg h10, if_neg hdg, if_pos hlt]
            exact if_neg h24
          · unfold readP
            rw [hget, if_neg h10, if_neg hdg, if_pos hlt]
            simp only
            rw [if_neg h24]
      · rw [if_neg hlt] at he ⊢
        have hbg : beginsB (c.toNat : Int) = false := by
          unfold beginsB
          cases h1 : letterB (c.toNat : Int)
          · cases h2 : digitB (c.toNat : Int)
            · rfl
            · exact absurd h2 hdg
          · exact absurd h1 hlt
        by_cases hs : isSign (Bq (c :: r.take m)) = true
        · simp only at he ⊢
          rw [if_pos hs]
          have hmem := isSign_mem hs
          have hsz : (Bq (c :: r.take m)).size ≤ 3 := by
            have : ∀ p ∈ sgL, p.length ≤ 3 := by decide
            exact this _ hmem
          refine ⟨rfl, ?_, ?_, ⟨(by decide : (0 : Int) ≤ 2), (by decide : (2 : Int) ≤ 3)⟩, (by decide : (0 : Nat) < 18446744073709551616), by show (Bq (c :: r.take m)).size ≤ 70000; omega, fun h => absurd h (by decide : ¬ (2 : Int) = 3), c, _, rfl, hb, h35, fun h => by (rw [hbg] at h; cases h), fun _ => .inr hmem⟩
          · unfold readP
            rw [hget, if_neg h10, if_neg hdg, if_neg hlt]
            exact if_pos hs
          · unfold readP
            rw [hget, if_neg h10, if_neg hdg, if_neg hlt]
            simp only
            rw [if_pos hs]
        · simp only at he
          rw [if_neg hs] at he
          cases he

theorem takeWhile_append_all {p : UInt8 → Bool} {a b : List UInt8} (h : ∀ c ∈ a, p c = true) : (a ++ b).takeWhile p = a ++ b.takeWhile p := by
  induction a with
  | nil => rfl
  | cons c a ih => rw [List.cons_append, List.takeWhile_cons, if_pos (h c (by simp)), ih (fun d hd => h d (by simp [hd]))]; rfl
theorem tokLen_good {t : Tok} {p : List UInt8} (h : Good t p) (rest : List UInt8) (hr : t.kind ≠ 3 → ∀ d, rest.head? = some d → goesC d = false) : tokLen (p ++ rest) = p.length := by
  obtain ⟨c, r, rfl, hb, h35, hrun, hsg⟩ := h.head
  rw [List.cons_append]
  simp only [tokLen]
  by_cases hbg : beginsB (c.toNat : Int) = true
  · rw [if_pos hbg, takeWhile_append_all (hrun hbg).2]
    have : rest.takeWhile goesC = [] := by
      cases rest with
      | nil => rfl
      | cons d s =>
        have := hr (hrun hbg).1 d rfl
        rw [List.takeWhile_cons, this]
        rfl
    rw [this, List.append_nil, List.length_cons]
    omega
  · rw [if_neg hbg]
    rcases hsg (by simpa using hbg) with h10 | hm
    · injection h10 with e1 e2
      subst e1 e2
      rw [decL_ascii 10 _ (by decide)]
      rfl
    · rw [← List.cons_append, sg_dec _ hm]
theorem readN_good {t : Tok} {p : List UInt8} (h : Good t p) (rest : List UInt8) (hr : t.kind ≠ 3 → ∀ d, rest.head? = some d → goesC d = false) : readN (p ++ rest) = readP (Bq p) := by
  unfold readN
  rw [tokLen_good h rest hr, List.take_left]
/-- A token, and what stands behind it. -/
theorem T_good {t : Tok} {p : List UInt8} (h : Good t p) (rest : List UInt8) (hr : t.kind ≠ 3 → ∀ d, rest.head? = some d → goesC d = false) (a line : Nat) :
    T (p ++ rest) a line = consT { t with at_ := a, line := line } (T rest (a + p.length) (if t.kind = 3 then line + 1 else line)) := by
  have hrd := readN_good h rest hr
  have htl := tokLen_good h rest hr
  have hcore := h.core
  obtain ⟨c, r, hp, hb, h35, _⟩ := h.head
  have e : p ++ rest = c :: (r ++ rest) := by rw [hp]; rfl
  have hk : (readP (Bq p)).1.kind = t.kind := congrArg Prod.fst hcore
  have ht : (readP (Bq p)).1.text = t.text := congrArg (fun x => x.2.1) hcore
  have hn : (readP (Bq p)).1.num = t.num := congrArg (fun x => x.2.2) hcore
  rw [e] at hrd htl ⊢
  rw [T_tok c (r ++ rest) a line hb h35 (by rw [hrd]; exact h.err)]
  unfold tokOf nextLn
  rw [hrd, htl, ← e, List.drop_left, hk]
  have : ({ (readP (Bq p)).1 with at_ := (a : Int), line := (line : Int) } : Tok) = { t with at_ := (a : Int), line := (line : Int) } := by
    cases t
    simp only at hk ht hn ⊢
    rw [hk, ht, hn]
  rw [this]

theorem printP_head (ts : List Tok) (h : ∀ t ∈ ts, ∃ p, Good t p) : ∀ d, (printP ts false).head? = some d → goesC d = false := by
  cases ts with
  | nil => intro d hd; cases hd
  | cons t ts =>
    intro d hd
    obtain ⟨p, hg⟩ := h t (by simp)
    rw [printP, if_neg (by have := hg.kind; omega)] at hd
    by_cases h3 : t.kind = 3
    · have hw := hg.wr
      rw [hg.nl h3] at hw
      rw [if_neg (fun h => h.2 h3), hw] at hd
      simp at hd
      subst hd
      decide
    · rw [if_pos ⟨rfl, h3⟩] at hd
      simp at hd
      subst hd
      decide
/-- What is printed is read as the same tokens. -/
theorem T_print : ∀ (ts : List Tok) (fresh : Bool) (a line : Nat), (∀ t ∈ ts, ∃ p, Good t p) → (T (printP ts fresh) a line).2.2 = 0 ∧ (T (printP ts fresh) a line).1.map Tok.core = ts.map Tok.core := by
  intro ts
  induction ts with
  | nil => intro fresh a line _; exact ⟨rfl, rfl⟩
  | cons t ts ih =>
    intro fresh a line h
    obtain ⟨p, hg⟩ := h t (by simp)
    have ih' := fun fr a line => ih fr a line (fun x hx => h x (by simp [hx]))
    have hp : printP (t :: ts) fresh = (if fresh = false ∧ t.kind ≠ 3 then [32] else []) ++ (p ++ printP ts (decide (t.kind = 3))) := by
      rw [printP, if_neg (by have := hg.kind; omega), hg.wr, List.append_assoc]
    have key : ∀ a, (T (p ++ printP ts (decide (t.kind = 3))) a line).2.2 = 0 ∧ (T (p ++ printP ts (decide (t.kind = 3))) a line).1.map Tok.core = (t :: ts).map Tok.core := fun a => by
      rw [T_good hg _ (fun h3 d hd => by rw [decide_eq_false h3] at hd; exact printP_head ts (fun x hx => h x (by simp [hx])) d hd)]
      obtain ⟨h1, h2⟩ := ih' (decide (t.kind = 3)) (a + p.length) (if t.kind = 3 then line + 1 else line)
      unfold consT
      rw [if_neg (fun h => h h1)]
      exact ⟨rfl, by rw [List.map_cons, h2]; rfl⟩
    rw [hp]
    by_cases hs : fresh = false ∧ t.kind ≠ 3
    · rw [if_pos hs, List.singleton_append, T_blank 32 _ a line (by decide)]
      exact key _
    · rw [if_neg hs, List.nil_append]
      exact key _
/-- The tokens of a text are good, and they are not too long. -/
theorem T_goods : ∀ (n : Nat) (l : List UInt8) (a line : Nat), l.length < n → (∀ t ∈ (T l a line).1, ∃ p, Good t p) ∧ ∀ fresh, (printP (T l a line).1 fresh).length ≤ 2 * l.length := by
  intro n
  induction n with
  | zero => intro l a line h; omega
  | succ n ih =>
    intro l a line h
    cases l with
    | nil => rw [T_nil]; exact ⟨fun t ht => by simp at ht, fun _ => Nat.zero_le _⟩
    | cons c r =>
      have h1 := tokLen_pos c r
      have h4 := tokLen_le c r
      simp only [List.length_cons] at h h4
      by_cases hb : blankB (c.toNat : Int) = true
      · rw [T_blank c r a line hb]
        have := ih r (a + 1) line (by omega)
        exact ⟨this.1, fun fr => by have := this.2 fr; rw [List.length_cons]; omega⟩
      · have hb' : blankB (c.toNat : Int) = false := by simpa using hb
        by_cases h35 : c.toNat = 35
        · rw [T_remark c r a line hb' h35]
          have hd : (r.dropWhile nlC).length ≤ r.length := by rw [dropWhile_drop, List.length_drop]; omega
          have := ih (r.dropWhile nlC) (a + 1 + (r.takeWhile nlC).length) line (by omega)
          exact ⟨this.1, fun fr => by have := this.2 fr; rw [List.length_cons]; omega⟩
        · by_cases he : (readN (c :: r)).2 = 0
          · have hg := read_good c r hb' h35 he
            rw [T_tok c r a line hb' h35 he]
            have hg' : Good (tokOf (c :: r) a line) ((c :: r).take (tokLen (c :: r))) := ⟨hg.wr, hg.err, hg.core, hg.kind, hg.num, hg.text, hg.nl, hg.head⟩
            have := ih ((c :: r).drop (tokLen (c :: r))) (a + tokLen (c :: r)) (nextLn (c :: r) line) (by rw [List.length_drop, List.length_cons]; omega)
            unfold consT
            split
            · exact ⟨fun t ht => by simp at ht, fun _ => Nat.zero_le _⟩
            · refine ⟨fun t ht => ?_, fun fr => ?_⟩
              · rcases List.mem_cons.1 ht with rfl | ht
                · exact ⟨_, hg'⟩
                · exact this.1 t ht
              · have h5 := this.2 (decide ((tokOf (c :: r) a line).kind = 3))
                rw [List.length_drop, List.length_cons] at h5
                simp only
                rw [printP, if_neg (by have := hg'.kind; omega), hg'.wr, List.length_append, List.length_append, List.length_take, List.length_cons]
                split <;> simp only [List.length_cons, List.length_nil] <;> omega
          · rw [T_bad c r a line hb' h35 he]
            exact ⟨fun t ht => by simp at ht, fun _ => Nat.zero_le _⟩
theorem T_count : ∀ (n : Nat) (l : List UInt8) (a line : Nat), l.length < n → (T l a line).1.length ≤ l.length := by
  intro n
  induction n with
  | zero => intro l a line h; omega
  | succ n ih =>
    intro l a line h
    cases l with
    | nil => rw [T_nil]; exact Nat.le_refl _
    | cons c r =>
      have h1 := tokLen_pos c r
      simp only [List.length_cons] at h
      rw [List.length_cons]
      by_cases hb : blankB (c.toNat : Int) = true
      · rw [T_blank c r a line hb]
        have := ih r (a + 1) line (by omega)
        omega
      · have hb' : blankB (c.toNat : Int) = false := by simpa using hb
        by_cases h35 : c.toNat = 35
        · rw [T_remark c r a line hb' h35]
          have hd : (r.dropWhile nlC).length ≤ r.length := by rw [dropWhile_drop, List.length_drop]; omega
          have := ih (r.dropWhile nlC) (a + 1 + (r.takeWhile nlC).length) line (by omega)
          omega
        · by_cases he : (readN (c :: r)).2 = 0
          · rw [T_tok c r a line hb' h35 he]
            have := ih ((c :: r).drop (tokLen (c :: r))) (a + tokLen (c :: r)) (nextLn (c :: r) line) (by rw [List.length_drop, List.length_cons]; omega)
            rw [List.length_drop, List.length_cons] at this
            unfold consT
            split
            · simp
            · simp only [List.length_cons]; omega
          · rw [T_bad c r a line hb' h35 he]
            simp
theorem printP_core : ∀ (a b : List Tok) (fresh : Bool), a.map Tok.core = b.map Tok.core → printP a fresh = printP b fresh := by
  intro a
  induction a with
  | nil => intro b fresh h; cases b with
    | nil => rfl
    | cons _ _ => simp at h
  | cons t a ih =>
    intro b fresh h
    cases b with
    | nil => simp at h
    | cons u b =>
      rw [List.map_cons, List.map_cons] at h
      injection h with h1 h2
      unfold Tok.core at h1
      injection h1 with e1 e2
      injection e2 with e2 e3
      rw [printP, printP, e1, ih b _ h2, ih b _ h2]
      have : wrP t = wrP u := by unfold wrP; rw [e1, e2, e3]
      rw [this]
end Go.Proofs.YtonihjijienigaaDoor
