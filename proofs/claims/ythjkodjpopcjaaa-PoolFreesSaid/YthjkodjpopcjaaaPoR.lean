/- Layer 10, mathematics: what becomes of unlike blocks in limbo. -/
import Derived.Test.YthjkodjpopcjaaaPoN
import Derived.Test.YthjkodjpopcjaaaPoQ
namespace Go.Proofs.Ythjkodjpopcjaaa
theorem short_of_nodup : ∀ (l S : List Int), l.Nodup → (∀ x ∈ l, x ∈ S) → l.length ≤ S.length
  | [], _, _, _ => Nat.zero_le _
  | x :: l, S, hn, hs => by
    have hx := hs x (by simp)
    have hn' := List.nodup_cons.1 hn
    have h := short_of_nodup l (S.erase x) hn'.2 (fun y hy => (List.mem_erase_of_ne (fun (e : y = x) => hn'.1 (e ▸ hy))).2 (hs y (by simp [hy])))
    rw [List.length_erase_of_mem hx] at h
    have : 0 < S.length := List.length_pos_of_mem hx
    simp only [List.length_cons]; omega
theorem short_of_range {l : List Int} {b : Int} (hn : l.Nodup) (h : ∀ x ∈ l, 0 ≤ x ∧ x < b) : (l.length : Int) ≤ b ∨ l = [] := by
  by_cases e : l = []
  · exact .inr e
  left
  have hb : 0 < b := by
    obtain ⟨x, hx⟩ := List.exists_mem_of_ne_nil l e
    have := h x hx
    omega
  have := short_of_nodup l ((List.range b.toNat).map Int.ofNat) hn (fun x hx => by
    have := h x hx
    exact List.mem_map.2 ⟨x.toNat, List.mem_range.2 (by omega), by simp; omega⟩)
  simp at this
  omega
def stays (S l : List Int) : List Int := l.filter fun a => decide (S.count (a + 1) ≠ 0)
def goes (S l : List Int) : List Int := l.filter fun a => decide (S.count (a + 1) = 0)
theorem stays_snoc (S l : List Int) (a : Int) : stays S (l ++ [a]) = if S.count (a + 1) = 0 then stays S l else stays S l ++ [a] := by
  unfold stays
  rw [List.filter_append]
  by_cases h : S.count (a + 1) = 0 <;> simp [List.filter_cons, h]
theorem goes_snoc (S l : List Int) (a : Int) : goes S (l ++ [a]) = if S.count (a + 1) = 0 then goes S l ++ [a] else goes S l := by
  unfold goes
  rw [List.filter_append]
  by_cases h : S.count (a + 1) = 0 <;> simp [List.filter_cons, h]
theorem goes_len (S l : List Int) : (goes S l).length + (stays S l).length = l.length := by
  unfold goes stays
  induction l with
  | nil => rfl
  | cons a l ih => by_cases h : S.count (a + 1) = 0 <;> (simp [List.filter_cons, h] at ih ⊢; omega)
/-- Those that stay are as few as there are slots. -/
theorem stays_few {S l : List Int} (hn : l.Nodup) : (stays S l).length ≤ S.length := by
  have h1 : ((stays S l).map (· + 1)).Nodup := List.Pairwise.map _ (fun a b hne e => hne (by omega)) (hn.filter _)
  have h2 := short_of_nodup ((stays S l).map (· + 1)) S h1 (fun x hx => by
    obtain ⟨a, ha, rfl⟩ := List.mem_map.1 hx
    exact List.count_pos_iff.1 (Nat.pos_of_ne_zero (of_decide_eq_true (List.mem_filter.1 ha).2)))
  simpa using h2
theorem putAt_app {c : CfgD} {r : Int} {ps : List (Int × Int)} {kd i v : Int} (h : (ps.length : Int) < r) : putAt c r ps kd i v = ps ++ [(c.at_ kd i 0, v)] := by
  unfold putAt putS
  have := ents_len ps
  have h2 : fits r ps (c.at_ kd i 0) = true := by
    unfold fits
    simp
    right
    omega
  exact if_pos h2
theorem at_ne {c : CfgD} (hc : c.Bd) {k i j k' i' j' : Int} (h : c.at_ k i j ≠ -1) (hne : ¬ (k' = k ∧ i' = i ∧ j' = j)) : c.at_ k i j ≠ c.at_ k' i' j' := fun e => hne (at_inj hc h e.symm)
theorem at15n {c : CfgD} (hc : c.Bd) {a : Int} (h : 0 ≤ a ∧ a < c.lim) : c.at_ 15 a 0 ≠ -1 := at_nn hc 15 (by decide) h ⟨Int.le_refl _, by show (0 : Int) < 1; decide⟩
/-- What was put, k blocks on. -/
structure FrI (c : CfgD) (S l : List Int) (t : Int) (k : Nat) (s : SetD) : Prop where
  len : s.ps.length ≤ 2 * k
  nt : s.nt = t + (goes S (l.take k)).length
  stay : s.stay = (stays S (l.take k)).length
  life : ∀ a, 0 ≤ a → a < c.b → look (ents s.ps) (c.at_ 11 a 0) = if a ∈ l.take k ∧ S.count (a + 1) = 0 then some 0 else none
  stack : ∀ (i : Nat) (a : Int), (goes S (l.take k))[i]? = some a → look (ents s.ps) (c.at_ 13 (t + i) 0) = some a
  limbo : ∀ (i : Nat) (a : Int), (stays S (l.take k))[i]? = some a → look (ents s.ps) (c.at_ 15 i 0) = some a ∨ (look (ents s.ps) (c.at_ 15 i 0) = none ∧ l[i]? = some a)
  fresh : ∀ i : Nat, (stays S (l.take k)).length ≤ i → i < l.length → look (ents s.ps) (c.at_ 15 i 0) = none
theorem fr_step {c : CfgD} (hc : c.Bd) {S l : List Int} {t : Int} {k : Nat} {s : SetD} {a : Int} (h : FrI c S l t k s) (ha : l[k]? = some a) (hb : ∀ x ∈ l, 0 ≤ x ∧ x < c.b) (ht : 0 ≤ t) (hl : t + l.length ≤ c.b) (hl2 : (l.length : Int) ≤ c.lim) (h8 : l.length ≤ 8) :
    FrI c S l t (k + 1) (stStep c 200 S k s a) := by
  have hk : k < l.length := (List.getElem?_eq_some_iff.1 ha).1
  have hab := hb a (List.mem_of_getElem? ha)
  have htk : l.take (k + 1) = l.take k ++ [a] := by rw [List.take_add_one, ha]; rfl
  have hgl := goes_len S (l.take k)
  rw [List.length_take, Nat.min_eq_left (by omega)] at hgl
  have hlen := h.len
  unfold stStep
  rw [if_neg (by omega)]
  by_cases hz : S.count (a + 1) = 0
  · have hg : goes S (l.take (k + 1)) = goes S (l.take k) ++ [a] := by rw [htk, goes_snoc, if_pos hz]
    have hs : stays S (l.take (k + 1)) = stays S (l.take k) := by rw [htk, stays_snoc, if_pos hz]
    have hnt : s.nt < c.b := by rw [h.nt]; omega
    have hf : freeD c 200 s.nt s.ps a = (s.nt + 1, s.ps ++ [(c.at_ 11 a 0, 0)] ++ [(c.at_ 13 s.nt 0, a)]) := by
      unfold freeD
      rw [if_pos hnt, putAt_app (ps := s.ps) (by omega), putAt_app (by simp; omega)]
    rw [if_pos hz, hf]
    have e13 : ∀ x, c.at_ 13 s.nt 0 ≠ x → look (ents (s.ps ++ [(c.at_ 11 a 0, 0)] ++ [(c.at_ 13 s.nt 0, a)])) x = if x = c.at_ 11 a 0 then some 0 else look (ents s.ps) x := fun x hx => by
      rw [look_put, if_neg (fun e => hx e.symm), look_put]
    refine ⟨by simp; omega, by rw [hg]; simp [h.nt]; omega, by rw [hs]; exact h.stay, fun x hx0 hx1 => ?_, fun i x hi => ?_, fun i x hi => ?_, fun i hi hil => ?_⟩
    · show look (ents (s.ps ++ [(c.at_ 11 a 0, 0)] ++ [(c.at_ 13 s.nt 0, a)])) (c.at_ 11 x 0) = _
      rw [e13 _ (fun e => at_ne hc (at11n hc ⟨hx0, hx1⟩) (by omega) e.symm), htk]
      by_cases e : x = a
      · subst e
        rw [if_pos rfl, if_pos ⟨by simp, hz⟩]
      · rw [if_neg (at_ne hc (at11n hc ⟨hx0, hx1⟩) (fun q => e q.2.1.symm)), h.life x hx0 hx1]
        simp [e]
    · show look (ents (s.ps ++ [(c.at_ 11 a 0, 0)] ++ [(c.at_ 13 s.nt 0, a)])) (c.at_ 13 (t + i) 0) = _
      rw [hg] at hi
      by_cases hlt : i < (goes S (l.take k)).length
      · rw [List.getElem?_append_left hlt] at hi
        have n13 : c.at_ 13 (t + i) 0 ≠ -1 := at13n hc ⟨by omega, by omega⟩
        rw [e13 _ (fun e => at_ne hc n13 (fun q => by have := q.2.1; have := h.nt; omega) e.symm), if_neg (at_ne hc n13 (by omega))]
        exact h.stack i x hi
      · rw [List.getElem?_append_right (by omega)] at hi
        have : i - (goes S (l.take k)).length = 0 := by
          have := (List.getElem?_eq_some_iff.1 hi).1
          simp at this
          omega
        rw [this] at hi
        have hxa : a = x := by simpa using hi
        rw [show t + (i : Int) = s.nt by rw [h.nt]; omega, look_put, if_pos rfl, hxa]
    · show look (ents (s.ps ++ [(c.at_ 11 a 0, 0)] ++ [(c.at_ 13 s.nt 0, a)])) (c.at_ 15 i 0) = _ ∨ look (ents (s.ps ++ [(c.at_ 11 a 0, 0)] ++ [(c.at_ 13 s.nt 0, a)])) (c.at_ 15 i 0) = _ ∧ _
      rw [hs] at hi
      have hi' := (List.getElem?_eq_some_iff.1 hi).1
      have n15 : c.at_ 15 (i : Int) 0 ≠ -1 := at15n hc ⟨by omega, by omega⟩
      rw [e13 _ (fun e => at_ne hc n15 (by omega) e.symm), if_neg (at_ne hc n15 (by omega))]
      exact h.limbo i x hi
    · show look (ents (s.ps ++ [(c.at_ 11 a 0, 0)] ++ [(c.at_ 13 s.nt 0, a)])) (c.at_ 15 i 0) = _
      rw [hs] at hi
      have n15 : c.at_ 15 (i : Int) 0 ≠ -1 := at15n hc ⟨by omega, by omega⟩
      rw [e13 _ (fun e => at_ne hc n15 (by omega) e.symm), if_neg (at_ne hc n15 (by omega))]
      exact h.fresh i hi hil
  · have hg : goes S (l.take (k + 1)) = goes S (l.take k) := by rw [htk, goes_snoc, if_neg hz]
    have hs : stays S (l.take (k + 1)) = stays S (l.take k) ++ [a] := by rw [htk, stays_snoc, if_neg hz]
    rw [if_neg hz]
    have hst := h.stay
    have lf : ∀ x, (if x ∈ l.take (k + 1) ∧ S.count (x + 1) = 0 then some (0 : Int) else none) = if x ∈ l.take k ∧ S.count (x + 1) = 0 then some 0 else none := fun x => by
      rw [htk]
      by_cases e : x = a
      · subst e; simp [hz]
      · simp [e]
    by_cases hsk : s.stay = k
    · refine ⟨by rw [if_pos hsk]; simp only; omega, by rw [hg]; exact h.nt, by rw [hs]; simp [hst], fun x hx0 hx1 => ?_, fun i x hi => ?_, fun i x hi => ?_, fun i hi hil => ?_⟩ <;> rw [if_pos hsk]
      · rw [lf]; exact h.life x hx0 hx1
      · rw [hg] at hi; exact h.stack i x hi
      · rw [hs] at hi
        by_cases hlt : i < (stays S (l.take k)).length
        · rw [List.getElem?_append_left hlt] at hi
          exact h.limbo i x hi
        · rw [List.getElem?_append_right (by omega)] at hi
          have h0 : i - (stays S (l.take k)).length = 0 := by
            have := (List.getElem?_eq_some_iff.1 hi).1
            simp at this
            omega
          rw [h0] at hi
          have hxa : a = x := by simpa using hi
          have hik : i = k := by omega
          subst hik hxa
          exact .inr ⟨h.fresh i (by omega) hk, ha⟩
      · rw [hs] at hi
        exact h.fresh i (by simp at hi; omega) hil
    · have hp : putAt c 200 s.ps 15 (s.stay : Int) a = s.ps ++ [(c.at_ 15 (s.stay : Int) 0, a)] := putAt_app (by omega)
      refine ⟨by rw [if_neg hsk, hp]; simp; omega, by rw [hg]; exact h.nt, by rw [hs]; simp [hst], fun x hx0 hx1 => ?_, fun i x hi => ?_, fun i x hi => ?_, fun i hi hil => ?_⟩ <;> rw [if_neg hsk, hp]
      · rw [lf]
        show look (ents (s.ps ++ [(c.at_ 15 (s.stay : Int) 0, a)])) _ = _
        rw [look_put, if_neg (at_ne hc (at11n hc ⟨hx0, hx1⟩) (by omega))]
        exact h.life x hx0 hx1
      · show look (ents (s.ps ++ [(c.at_ 15 (s.stay : Int) 0, a)])) _ = _
        rw [hg] at hi
        have hi' := (List.getElem?_eq_some_iff.1 hi).1
        rw [look_put, if_neg (at_ne hc (at13n hc ⟨by omega, by omega⟩) (by omega))]
        exact h.stack i x hi
      · show look (ents (s.ps ++ [(c.at_ 15 (s.stay : Int) 0, a)])) _ = _ ∨ look (ents (s.ps ++ [(c.at_ 15 (s.stay : Int) 0, a)])) _ = _ ∧ _
        rw [hs] at hi
        by_cases hlt : i < (stays S (l.take k)).length
        · rw [List.getElem?_append_left hlt] at hi
          have n15 : c.at_ 15 (i : Int) 0 ≠ -1 := at15n hc ⟨by omega, by omega⟩
          rw [look_put, if_neg (at_ne hc n15 (fun q => by have := q.2.1; omega))]
          exact h.limbo i x hi
        · rw [List.getElem?_append_right (by omega)] at hi
          have h0 : i - (stays S (l.take k)).length = 0 := by
            have := (List.getElem?_eq_some_iff.1 hi).1
            simp at this
            omega
          rw [h0] at hi
          have hxa : a = x := by simpa using hi
          rw [show (i : Int) = (s.stay : Int) by omega, look_put, if_pos rfl, hxa]
          exact .inl rfl
      · show look (ents (s.ps ++ [(c.at_ 15 (s.stay : Int) 0, a)])) _ = _
        rw [hs] at hi
        simp at hi
        have n15 : c.at_ 15 (i : Int) 0 ≠ -1 := at15n hc ⟨by omega, by omega⟩
        rw [look_put, if_neg (at_ne hc n15 (fun q => by have := q.2.1; omega))]
        exact h.fresh i (by omega) hil
theorem fr_all {c : CfgD} (hc : c.Bd) {S l : List Int} {t : Int} (hb : ∀ x ∈ l, 0 ≤ x ∧ x < c.b) (ht : 0 ≤ t) (hl : t + l.length ≤ c.b) (hl2 : (l.length : Int) ≤ c.lim) (h8 : l.length ≤ 8) : ∀ k, k ≤ l.length → FrI c S l t k (stL c 200 S 0 ⟨0, t, []⟩ (l.take k))
  | 0, _ => ⟨by simp [stL], by simp [stL, goes], by simp [stL, stays], fun a _ _ => by simp [stL, ents, stOf, look], fun i a hi => by simp [goes] at hi, fun i a hi => by simp [stays] at hi, fun i _ _ => by simp [stL, ents, stOf, look]⟩
  | k + 1, hk => by
    obtain ⟨a, ha⟩ : ∃ a, l[k]? = some a := ⟨_, List.getElem?_eq_getElem (by omega)⟩
    rw [stL_next ha]
    exact fr_step hc (fr_all hc hb ht hl hl2 h8 k (by omega)) ha hb ht hl hl2 h8
end Go.Proofs.Ythjkodjpopcjaaa
