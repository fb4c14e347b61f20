/- Layer 8 (wset), plain mathematics: entries, changes, and what is left of them. -/

namespace Go.Proofs.Ythjkodjpopcjaaa

/-- Where a cell's entry stands. -/
def idx : List (Int × Int) → Int → Option Nat
  | [], _ => none
  | e :: r, a => if e.1 = a then some 0 else (idx r a).map (· + 1)
/-- What a cell becomes. -/
def look : List (Int × Int) → Int → Option Int
  | [], _ => none
  | e :: r, a => if e.1 = a then some e.2 else look r a
theorem idx_some {es : List (Int × Int)} : ∀ {a : Int} {i : Nat}, idx es a = some i → ∃ v, es[i]? = some (a, v) ∧ look es a = some v := by
  induction es with
  | nil => intro a i h; cases h
  | cons e r ih =>
    intro a i h
    unfold idx at h
    unfold look
    by_cases he : e.1 = a
    · rw [if_pos he] at h ⊢
      obtain rfl := Option.some.inj h
      subst he
      exact ⟨e.2, rfl, rfl⟩
    · rw [if_neg he] at h ⊢
      cases hr : idx r a with
      | none => rw [hr] at h; cases h
      | some j =>
        rw [hr] at h
        obtain rfl := Option.some.inj h
        obtain ⟨v, h1, h2⟩ := ih hr
        exact ⟨v, by simpa using h1, h2⟩
theorem idx_lt {es : List (Int × Int)} {a : Int} {i : Nat} (h : idx es a = some i) : i < es.length := by
  obtain ⟨v, h1, _⟩ := idx_some h
  exact (List.getElem?_eq_some_iff.1 h1).1
theorem idx_none {es : List (Int × Int)} : ∀ {a : Int}, idx es a = none → look es a = none := by
  induction es with
  | nil => intro a _; rfl
  | cons e r ih =>
    intro a h
    unfold idx at h
    unfold look
    by_cases he : e.1 = a
    · rw [if_pos he] at h; cases h
    · rw [if_neg he] at h ⊢
      cases hr : idx r a with
      | none => exact ih hr
      | some j => rw [hr] at h; cases h
theorem idx_of_look {es : List (Int × Int)} {a v : Int} (h : look es a = some v) : ∃ i, idx es a = some i := by
  cases hi : idx es a with
  | none => rw [idx_none hi] at h; cases h
  | some i => exact ⟨i, rfl⟩
theorem idx_of_none {es : List (Int × Int)} {a : Int} (h : look es a = none) : idx es a = none := by
  cases hi : idx es a with
  | none => rfl
  | some i => obtain ⟨v, _, h2⟩ := idx_some hi; rw [h2] at h; cases h
theorem idx_isSome {es : List (Int × Int)} {a : Int} : (idx es a).isSome = (look es a).isSome := by
  cases hi : idx es a with
  | none => rw [idx_none hi]; rfl
  | some i => obtain ⟨v, _, h2⟩ := idx_some hi; rw [h2]; rfl
theorem idx_snoc (es : List (Int × Int)) (e : Int × Int) : ∀ (a : Int), idx (es ++ [e]) a = (idx es a).or (if e.1 = a then some es.length else none) := by
  induction es with
  | nil => intro a; simp [idx]
  | cons c r ih =>
    intro a
    simp only [List.cons_append, idx]
    by_cases hc : c.1 = a
    · simp [hc]
    · rw [if_neg hc, if_neg hc, ih a]
      cases idx r a with
      | none => by_cases he : e.1 = a <;> simp [he]
      | some j => simp
theorem look_snoc (es : List (Int × Int)) (e : Int × Int) : ∀ (a : Int), look (es ++ [e]) a = (look es a).or (if e.1 = a then some e.2 else none) := by
  induction es with
  | nil => intro a; simp [look]
  | cons c r ih =>
    intro a
    simp only [List.cons_append, look]
    by_cases hc : c.1 = a
    · simp [hc]
    · rw [if_neg hc, if_neg hc, ih a]
theorem idx_set (es : List (Int × Int)) (v : Int) : ∀ (a : Int) (i : Nat), idx es a = some i → ∀ x, idx (es.set i (a, v)) x = idx es x := by
  induction es with
  | nil => intro a i h; cases h
  | cons c r ih =>
    intro a i h x
    unfold idx at h
    by_cases hc : c.1 = a
    · rw [if_pos hc] at h
      obtain rfl := Option.some.inj h
      simp only [List.set_cons_zero, idx, hc]
    · rw [if_neg hc] at h
      cases hr : idx r a with
      | none => rw [hr] at h; cases h
      | some j =>
        rw [hr] at h
        obtain rfl := Option.some.inj h
        simp only [List.set_cons_succ, idx, ih a j hr x]
theorem look_set (es : List (Int × Int)) (v : Int) : ∀ (a : Int) (i : Nat), idx es a = some i → ∀ x, look (es.set i (a, v)) x = if x = a then some v else look es x := by
  induction es with
  | nil => intro a i h; cases h
  | cons c r ih =>
    intro a i h x
    unfold idx at h
    by_cases hc : c.1 = a
    · rw [if_pos hc] at h
      obtain rfl := Option.some.inj h
      simp only [List.set_cons_zero, look, hc]
      by_cases hx : x = a
      · simp [hx]
      · rw [if_neg (Ne.symm hx), if_neg hx, if_neg (fun h => hx h.symm)]
    · rw [if_neg hc] at h
      cases hr : idx r a with
      | none => rw [hr] at h; cases h
      | some j =>
        rw [hr] at h
        obtain rfl := Option.some.inj h
        simp only [List.set_cons_succ, look, ih a j hr x]
        by_cases hx : x = a
        · subst hx; simp [hc]
        · simp [hx]

/-- A change: which entry was turned, what it was, and whether it is a new one. -/
structure ChD where
  place : Nat
  was : Int
  fresh : Bool
structure StD where
  es : List (Int × Int)
  cs : List ChD
def put1 (s : StD) (p : Int × Int) : StD :=
  match idx s.es p.1 with
  | some i => ⟨s.es.set i p, s.cs ++ [⟨i, (look s.es p.1).getD 0, false⟩]⟩
  | none => ⟨s.es ++ [p], s.cs ++ [⟨0, 0, true⟩]⟩
def stOf (ps : List (Int × Int)) : StD := ps.foldl put1 ⟨[], []⟩
def ents (ps : List (Int × Int)) : List (Int × Int) := (stOf ps).es
def chs (ps : List (Int × Int)) : List ChD := (stOf ps).cs
theorem stOf_snoc (ps : List (Int × Int)) (p : Int × Int) : stOf (ps ++ [p]) = put1 (stOf ps) p := by
  unfold stOf; rw [List.foldl_append]; rfl
theorem put1_old {s : StD} {p : Int × Int} {i : Nat} (h : idx s.es p.1 = some i) : put1 s p = ⟨s.es.set i p, s.cs ++ [⟨i, (look s.es p.1).getD 0, false⟩]⟩ := by
  unfold put1; rw [h]
theorem put1_new {s : StD} {p : Int × Int} (h : idx s.es p.1 = none) : put1 s p = ⟨s.es ++ [p], s.cs ++ [⟨0, 0, true⟩]⟩ := by
  unfold put1; rw [h]
theorem ents_old {ps : List (Int × Int)} {p : Int × Int} {i : Nat} (h : idx (ents ps) p.1 = some i) : ents (ps ++ [p]) = (ents ps).set i p := by
  unfold ents at *; rw [stOf_snoc, put1_old h]
theorem ents_new {ps : List (Int × Int)} {p : Int × Int} (h : idx (ents ps) p.1 = none) : ents (ps ++ [p]) = ents ps ++ [p] := by
  unfold ents at *; rw [stOf_snoc, put1_new h]
theorem chs_old {ps : List (Int × Int)} {p : Int × Int} {i : Nat} (h : idx (ents ps) p.1 = some i) : chs (ps ++ [p]) = chs ps ++ [⟨i, (look (ents ps) p.1).getD 0, false⟩] := by
  unfold ents chs at *; rw [stOf_snoc, put1_old h]
theorem chs_new {ps : List (Int × Int)} {p : Int × Int} (h : idx (ents ps) p.1 = none) : chs (ps ++ [p]) = chs ps ++ [⟨0, 0, true⟩] := by
  unfold ents chs at *; rw [stOf_snoc, put1_new h]
theorem put1_len (s : StD) (p : Int × Int) : (put1 s p).cs.length = s.cs.length + 1 ∧ s.es.length ≤ (put1 s p).es.length ∧ (put1 s p).es.length ≤ s.es.length + 1 := by
  unfold put1; split <;> simp
theorem snoc_ind {P : List (Int × Int) → Prop} (h0 : P []) (h1 : ∀ ps p, P ps → P (ps ++ [p])) : ∀ ps, P ps := by
  intro ps
  have : ∀ n (l : List (Int × Int)), l.length = n → P l := by
    intro n
    induction n with
    | zero => intro l hl; rw [List.eq_nil_of_length_eq_zero hl]; exact h0
    | succ n ih =>
      intro l hl
      have hne : l ≠ [] := by intro h; subst h; cases hl
      rw [← List.dropLast_concat_getLast hne]
      exact h1 _ _ (ih _ (by simp [hl]))
  exact this _ ps rfl
theorem chs_len : ∀ ps : List (Int × Int), (chs ps).length = ps.length := by
  refine snoc_ind rfl fun ps p ih => ?_
  unfold chs at *
  rw [stOf_snoc, (put1_len _ _).1, ih]; simp
theorem ents_len : ∀ ps : List (Int × Int), (ents ps).length ≤ ps.length := by
  refine snoc_ind (Nat.le_refl _) fun ps p ih => ?_
  unfold ents at *
  rw [stOf_snoc]
  have := (put1_len (stOf ps) p).2.2
  simp
  omega
theorem ents_put_len (ps : List (Int × Int)) (p : Int × Int) : (ents ps).length ≤ (ents (ps ++ [p])).length ∧ (ents (ps ++ [p])).length ≤ (ents ps).length + 1 := by
  unfold ents; rw [stOf_snoc]; exact (put1_len _ _).2
theorem set_back {es : List (Int × Int)} {a v v' : Int} {i : Nat} (h : es[i]? = some (a, v)) : (es.set i (a, v')).set i (a, v) = es := by
  rw [List.set_set]
  obtain ⟨hi, he⟩ := List.getElem?_eq_some_iff.1 h
  rw [← he]
  exact List.set_getElem_self hi
theorem look_put (ps : List (Int × Int)) (p : Int × Int) (x : Int) : look (ents (ps ++ [p])) x = if x = p.1 then some p.2 else look (ents ps) x := by
  cases h : idx (ents ps) p.1 with
  | some i => rw [ents_old h]; exact look_set _ p.2 p.1 i h x
  | none =>
    rw [ents_new h, look_snoc]
    by_cases hx : x = p.1
    · subst hx; rw [idx_none h]; simp
    · rw [if_neg hx, if_neg (fun h => hx h.symm)]; simp
/-- Each entry is found where it stands. -/
def Own (es : List (Int × Int)) : Prop := ∀ (i : Nat) (e : Int × Int), es[i]? = some e → idx es e.1 = some i
theorem own_ents : ∀ ps : List (Int × Int), Own (ents ps) := by
  refine snoc_ind (fun i e h => by simp [ents, stOf] at h) fun ps p ih => ?_
  intro i e he
  cases h : idx (ents ps) p.1 with
  | some j =>
    rw [ents_old h] at he ⊢
    rw [show p = (p.1, p.2) from rfl, idx_set _ p.2 p.1 j h]
    have hj := idx_lt h
    rw [List.getElem?_set] at he
    by_cases hij : j = i
    · subst hij
      rw [if_pos rfl, if_pos hj] at he
      obtain rfl := Option.some.inj he
      exact h
    · rw [if_neg hij] at he
      exact ih i e he
  | none =>
    rw [ents_new h] at he ⊢
    rw [idx_snoc]
    by_cases hi : i < (ents ps).length
    · rw [List.getElem?_append_left hi] at he
      rw [ih i e he]; rfl
    · have hi' : i = (ents ps).length := by
        have := (List.getElem?_eq_some_iff.1 he).1
        simp at this; omega
      subst hi'
      simp at he
      subst he
      rw [h]; simp
theorem ents_look (ps : List (Int × Int)) {i : Nat} {e : Int × Int} (h : (ents ps)[i]? = some e) : look (ents ps) e.1 = some e.2 := by
  obtain ⟨v, h1, h2⟩ := idx_some (own_ents ps i e h)
  rw [h] at h1
  injection h1 with h1
  rw [h2, h1]
/-- The cells, in the order in which they came first. -/
def keys (ps : List (Int × Int)) : List Int := (ents ps).map (·.1)
theorem keys_put (ps : List (Int × Int)) (p : Int × Int) : keys (ps ++ [p]) = if (look (ents ps) p.1).isSome then keys ps else keys ps ++ [p.1] := by
  unfold keys
  rw [← idx_isSome]
  cases h : idx (ents ps) p.1 with
  | some i =>
    rw [ents_old h]
    obtain ⟨v, h1, _⟩ := idx_some h
    simp only [Option.isSome_some, if_true, List.map_set]
    have : ((ents ps).map (·.1))[i]? = some p.1 := by rw [List.getElem?_map, h1]; rfl
    obtain ⟨hi, he⟩ := List.getElem?_eq_some_iff.1 this
    rw [← he]
    exact List.set_getElem_self hi
  | none => rw [ents_new h]; simp
theorem ents_keys (ps : List (Int × Int)) : ents ps = (keys ps).map fun a => (a, (look (ents ps) a).getD 0) := by
  unfold keys
  rw [List.map_map]
  apply List.ext_getElem?
  intro i
  rw [List.getElem?_map]
  cases h : (ents ps)[i]? with
  | none => rfl
  | some e => simp [ents_look ps h]
/-- A Put within a room. -/
def fits (room : Int) (ps : List (Int × Int)) (a : Int) : Bool := (look (ents ps) a).isSome || decide (((ents ps).length : Int) < room)
def putS (room : Int) (ps : List (Int × Int)) (p : Int × Int) : List (Int × Int) := if fits room ps p.1 = true then ps ++ [p] else ps
theorem putS_len (room : Int) (ps : List (Int × Int)) (p : Int × Int) : ps.length ≤ (putS room ps p).length ∧ (putS room ps p).length ≤ ps.length + 1 := by
  unfold putS; split <;> simp
def putsS (room : Int) (ps l : List (Int × Int)) : List (Int × Int) := l.foldl (putS room) ps
theorem putsS_snoc (room : Int) (ps l : List (Int × Int)) (p : Int × Int) : putsS room ps (l ++ [p]) = putS room (putsS room ps l) p := by
  unfold putsS; rw [List.foldl_append]; rfl
theorem putsS_len (room : Int) : ∀ (l ps : List (Int × Int)), ps.length ≤ (putsS room ps l).length ∧ (putsS room ps l).length ≤ ps.length + l.length := by
  intro l
  induction l with
  | nil => intro ps; simp [putsS]
  | cons p r ih =>
    intro ps
    have h1 := putS_len room ps p
    have h2 := ih (putS room ps p)
    simp only [putsS, List.foldl_cons, List.length_cons] at h2 ⊢
    omega
/-- What was there stays there. -/
theorem putsS_take (room : Int) : ∀ (l ps : List (Int × Int)), (putsS room ps l).take ps.length = ps := by
  intro l
  induction l with
  | nil => intro ps; simp [putsS]
  | cons p r ih =>
    intro ps
    have h1 := ih (putS room ps p)
    have h2 : (putS room ps p).take ps.length = ps := by unfold putS; split <;> simp
    have h3 : ps.length ≤ (putS room ps p).length := (putS_len room ps p).1
    simp only [putsS, List.foldl_cons] at h1 ⊢
    rw [← Nat.min_eq_left h3, ← List.take_take, h1, h2]
end Go.Proofs.Ythjkodjpopcjaaa
