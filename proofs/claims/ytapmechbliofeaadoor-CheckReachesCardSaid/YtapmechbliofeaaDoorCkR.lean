/- Layer 5 (check): the document's Reach and Longest, as plain mathematics. -/
import Derived.Test.YtapmechbliofeaaDoorCkI
namespace Go.Proofs.YtapmechbliofeaaDoor

def leadsB (d : InsD) (k j : Nat) : Bool := !(decide (d.op = 20 ∨ d.op = 21)) && ((decide (d.op ≠ 17) && decide (j = k + 1)) || (decide (17 ≤ d.op ∧ d.op ≤ 19) && decide ((j : Int) = d.imm)))
theorem leadsB_iff {d : InsD} {k j : Nat} (h : 0 ≤ d.imm) : leadsB d k j = true ↔ j ∈ nexts d k := by
  have hj : ((j : Int) = d.imm) ↔ j = d.imm.toNat := by omega
  unfold leadsB nexts
  simp only [Bool.and_eq_true, Bool.or_eq_true, Bool.not_eq_true', decide_eq_true_eq, decide_eq_false_iff_not]
  by_cases c17 : d.op = 17
  · rw [if_pos c17]
    simp only [List.mem_singleton]
    constructor
    · rintro ⟨_, ⟨h1, _⟩ | ⟨_, h2⟩⟩
      · exact absurd c17 h1
      · exact hj.1 h2
    · intro e
      exact ⟨by omega, .inr ⟨by omega, hj.2 e⟩⟩
  rw [if_neg c17]
  by_cases c18 : d.op = 18 ∨ d.op = 19
  · rw [if_pos c18]
    simp only [List.mem_cons, List.not_mem_nil, or_false]
    constructor
    · rintro ⟨_, ⟨_, h2⟩ | ⟨_, h2⟩⟩
      · exact .inr h2
      · exact .inl (hj.1 h2)
    · rintro (e | e)
      · exact ⟨by omega, .inr ⟨by omega, hj.2 e⟩⟩
      · exact ⟨by omega, .inl ⟨c17, e⟩⟩
  rw [if_neg c18]
  by_cases c20 : d.op = 20 ∨ d.op = 21
  · rw [if_pos c20]
    constructor
    · rintro ⟨h1, _⟩
      exact absurd c20 h1
    · intro e
      simp at e
  · rw [if_neg c20]
    simp only [List.mem_singleton]
    constructor
    · rintro ⟨_, ⟨_, h2⟩ | ⟨h1, _⟩⟩
      · exact h2
      · omega
    · intro e
      exact ⟨c20, .inl ⟨c17, e⟩⟩

/-! ### Reach -/
structure RBase (l : List InsD) (M : List Bool) : Prop where
  len : M.length = l.length
  zero : M[0]? = some true
  sound : ∀ k, M[k]? = some true → Met l k
/-- Within a round that began at M0: the pairs ahead of (k, j) are done. -/
structure RStep (l : List InsD) (M0 M : List Bool) (k j : Nat) : Prop where
  base : RBase l M
  grow : ∀ i : Nat, M0[i]? = some true → M[i]? = some true
  done : ∀ a b : Nat, (a < k ∨ a = k ∧ b < j) → M0[a]? = some true → Leads l a b → M[b]? = some true
/-- So many are met, or all. -/
def RCnt (l : List InsD) (M : List Bool) (r : Nat) : Prop := (∀ k, Met l k → M[k]? = some true) ∨ r + 1 ≤ M.countP (fun b => b)
section
variable {l : List InsD} {M M0 : List Bool} {k j r : Nat}
theorem RBase.first (h : RightP l) : RBase l ((List.replicate l.length false).set 0 true) := by
  have := RIn.first h
  exact ⟨this.len, this.zero, this.sound⟩
theorem RStep.first (h : RBase l M) : RStep l M M 0 0 := ⟨h, fun _ h => h, fun a b hab => by omega⟩
theorem RStep.row (h : RStep l M0 M k l.length) (hr : RightP l) : RStep l M0 M (k + 1) 0 :=
  ⟨h.base, h.grow, fun a b hab h1 h2 => by
    have hb : b < l.length := by
      obtain ⟨d, hd, hj⟩ := h2
      exact nexts_lt hr hd hj
    refine h.done a b ?_ h1 h2
    rcases hab with h' | ⟨_, h'⟩
    · rcases Nat.lt_or_ge a k with h'' | h''
      · exact .inl h''
      · exact .inr ⟨by omega, hb⟩
    · omega⟩
theorem RStep.put (h : RStep l M0 M k j) {x y : Bool} {d : InsD} (hd : l[k]? = some d) (himm : 0 ≤ d.imm) (hj : M[j]? = some x) (hk : M[k]? = some y) : RStep l M0 (M.set j (x || (y && leadsB d k j))) k (j + 1) := by
  have hjl := (List.getElem?_eq_some_iff.1 hj).1
  have hself : (M.set j (x || (y && leadsB d k j)))[j]? = some (x || (y && leadsB d k j)) := List.getElem?_set_self hjl
  have hkeep : ∀ i : Nat, M[i]? = some true → (M.set j (x || (y && leadsB d k j)))[i]? = some true := fun i hi => by
    by_cases e : j = i
    · subst e
      rw [hself]
      rw [hj] at hi
      injection hi with hi
      rw [hi]
      simp
    · rw [List.getElem?_set_ne e]
      exact hi
  refine ⟨⟨by simp [h.base.len], hkeep _ h.base.zero, fun i hi => ?_⟩, fun i hi => hkeep i (h.grow i hi), fun a b hab h1 h2 => ?_⟩
  · by_cases e : j = i
    · subst e
      rw [hself] at hi
      injection hi with hi
      rcases Bool.or_eq_true_iff.1 hi with hx | hx
      · exact h.base.sound j (by rw [hj, hx])
      · obtain ⟨hy, hb⟩ := Bool.and_eq_true_iff.1 hx
        exact (h.base.sound k (by rw [hk, hy])).next ⟨d, hd, (leadsB_iff himm).1 hb⟩
    · rw [List.getElem?_set_ne e] at hi
      exact h.base.sound i hi
  · by_cases e : a = k ∧ b = j
    · obtain ⟨rfl, rfl⟩ := e
      have hy : y = true := by
        have := h.grow a h1
        rw [hk] at this
        injection this
      obtain ⟨d', hd', hj'⟩ := h2
      rw [hd] at hd'
      injection hd' with hd'
      subst hd'
      rw [hself, hy, (leadsB_iff himm).2 hj']
      simp
    · refine hkeep b (h.done a b ?_ h1 h2)
      rcases hab with h' | ⟨h', h''⟩
      · exact .inl h'
      · exact .inr ⟨h', by omega⟩
theorem count_mono : ∀ {M0 M : List Bool}, M0.length = M.length → (∀ i : Nat, M0[i]? = some true → M[i]? = some true) → M0.countP (fun b => b) ≤ M.countP (fun b => b)
  | [], [], _, _ => Nat.le_refl _
  | a :: M0, b :: M, hl, hg => by
    have ih := count_mono (M0 := M0) (M := M) (by simpa using hl) (fun i hi => by simpa using hg (i + 1) (by simpa using hi))
    have h0 := hg 0
    rw [List.countP_cons, List.countP_cons]
    cases a
    · simp; omega
    · have : b = true := by simpa using h0
      subst this
      simp
      omega
theorem count_strict : ∀ {M0 M : List Bool} {j : Nat}, M0.length = M.length → (∀ i : Nat, M0[i]? = some true → M[i]? = some true) → M0[j]? = some false → M[j]? = some true → M0.countP (fun b => b) + 1 ≤ M.countP (fun b => b)
  | a :: M0, b :: M, 0, hl, hg, h0, h1 => by
    have ih := count_mono (M0 := M0) (M := M) (by simpa using hl) (fun i hi => by simpa using hg (i + 1) (by simpa using hi))
    simp at h0 h1
    subst h0 h1
    rw [List.countP_cons, List.countP_cons]
    simp
    omega
  | a :: M0, b :: M, j + 1, hl, hg, h0, h1 => by
    have ih := count_strict (M0 := M0) (M := M) (j := j) (by simpa using hl) (fun i hi => by simpa using hg (i + 1) (by simpa using hi)) (by simpa using h0) (by simpa using h1)
    have h0 := hg 0
    rw [List.countP_cons, List.countP_cons]
    cases a
    · simp; omega
    · have : b = true := by simpa using h0
      subst this
      simp
      omega
theorem RCnt.first (h : RBase l M) : RCnt l M 0 := .inr (by
  have hz := h.zero
  have : 0 < M.countP (fun b => b) := List.countP_pos_iff.2 ⟨true, List.mem_of_getElem? hz, rfl⟩
  omega)
theorem RCnt.next (hr : RightP l) (h0 : RCnt l M0 r) (hb : RBase l M0) (h : RStep l M0 M l.length 0) : RCnt l M (r + 1) := by
  by_cases hc : ∀ a b, M0[a]? = some true → Leads l a b → M0[b]? = some true
  · left
    intro k hm
    exact h.grow k (Met.rec' (P := fun k => M0[k]? = some true) hb.zero (fun k j hk hl => hc k j hk hl) hm)
  · rcases h0 with h0 | h0
    · left
      exact fun k hm => h.grow k (h0 k hm)
    · right
      simp only [Classical.not_forall] at hc
      obtain ⟨a, b, h1, h2, h3⟩ := hc
      have ha : a < l.length := by rw [← hb.len]; exact (List.getElem?_eq_some_iff.1 h1).1
      have hbl : b < l.length := by
        obtain ⟨d, hd, hj⟩ := h2
        exact nexts_lt hr hd hj
      have hb0 : M0[b]? = some false := by
        have hlt : b < M0.length := by rw [hb.len]; exact hbl
        rw [List.getElem?_eq_getElem hlt] at h3 ⊢
        cases hv : M0[b]
        · rfl
        · rw [hv] at h3
          exact absurd rfl h3
      have := count_strict (by rw [hb.len, h.base.len]) h.grow hb0 (h.done a b (.inl ha) h1 h2)
      omega
theorem RCnt.all (h : RCnt l M l.length) (hb : RBase l M) (hr : rightB l = true) : M = metL l := by
  have hall : ∀ k, Met l k → M[k]? = some true := by
    rcases h with h | h
    · exact h
    · have := List.countP_le_length (p := fun b : Bool => b) (l := M)
      rw [hb.len] at this
      omega
  unfold metL
  rw [if_pos hr]
  apply List.ext_getElem?
  intro k
  rcases Nat.lt_or_ge k l.length with hk | hk
  · rw [List.getElem?_map, List.getElem?_range hk]
    have hkM : k < M.length := by rw [hb.len]; exact hk
    rw [List.getElem?_eq_getElem hkM]
    show some M[k] = some (metB l k)
    congr 1
    cases hbk : metB l k
    · cases hM : M[k]
      · rfl
      · have := hb.sound k (by rw [List.getElem?_eq_getElem hkM, hM])
        rw [← metB_iff, hbk] at this
        cases this
    · have := hall k ((metB_iff l k).1 hbk)
      rw [List.getElem?_eq_getElem hkM] at this
      injection this
  · rw [List.getElem?_eq_none (by rw [hb.len]; exact hk), List.getElem?_eq_none (by simpa using hk)]
end

/-! ### Longest -/
/-- From k on, forwards, n instructions may be done. -/
inductive Tail (l : List InsD) : Nat → Nat → Prop
  | one (k : Nat) : Tail l k 1
  | step {k j n : Nat} (hl : Leads l k j) (hf : k < j) (h : Tail l j n) : Tail l k (n + 1)
structure TBest (l : List InsD) (k h : Nat) : Prop where
  is : Tail l k h
  up : ∀ m, Tail l k m → m ≤ h
/-- The next ones below j are gone through. -/
structure TMid (l : List InsD) (k j h : Nat) : Prop where
  is : Tail l k h
  pos : 1 ≤ h
  up : ∀ b m, k < b → b < j → Leads l k b → Tail l b m → m + 1 ≤ h
structure TAll (l : List InsD) (k : Nat) (H : List Nat) : Prop where
  len : H.length = l.length
  small : ∀ j h : Nat, H[j]? = some h → h ≤ l.length
  best : ∀ j h : Nat, k ≤ j → H[j]? = some h → TBest l j h
  noback : ∀ i d, k ≤ i → Met l i → l[i]? = some d → d.op ≠ 19
section
variable {l : List InsD} {H : List Nat} {k j n m h g : Nat}
theorem Tail.small (hr : RightP l) (h : Tail l k n) : k < l.length → k + n ≤ l.length := by
  induction h with
  | one k => intro hk; omega
  | step hl hf _ ih =>
    intro hk
    obtain ⟨d, hd, hj⟩ := hl
    have := ih (nexts_lt hr hd hj)
    omega
theorem TMid.first (l : List InsD) (k : Nat) : TMid l k (k + 1) 1 := ⟨.one k, Nat.le_refl _, fun b m h1 h2 => by omega⟩
theorem TMid.same (h0 : TMid l k j h) (hn : ¬ Leads l k j ∨ (∀ m, Tail l j m → m + 1 ≤ h)) : TMid l k (j + 1) h :=
  ⟨h0.is, h0.pos, fun b m h1 h2 hl ht => by
    rcases Nat.lt_or_ge b j with h' | h'
    · exact h0.up b m h1 h' hl ht
    · obtain rfl : b = j := by omega
      rcases hn with hn | hn
      · exact absurd hl hn
      · exact hn m ht⟩
theorem TMid.more (h0 : TMid l k j h) (hkj : k < j) (hl : Leads l k j) (hb : TBest l j g) (hg : h < g + 1) : TMid l k (j + 1) (g + 1) :=
  ⟨.step hl hkj hb.is, by omega, fun b m h1 h2 hl' ht => by
    rcases Nat.lt_or_ge b j with h' | h'
    · have := h0.up b m h1 h' hl' ht
      omega
    · obtain rfl : b = j := by omega
      have := hb.up m ht
      omega⟩
theorem TMid.finish (hr : RightP l) (h0 : TMid l k l.length h) : TBest l k h :=
  ⟨h0.is, fun m ht => by
    cases ht with
    | one => exact h0.pos
    | step hl hf ht' =>
      obtain ⟨d, hd, hj⟩ := hl
      exact h0.up _ _ hf (nexts_lt hr hd hj) ⟨d, hd, hj⟩ ht'⟩
theorem way_tail (h : Tail l k m) : ∀ {n : Nat}, Way l k n → ∃ j, Way l j (n + m - 1) := by
  induction h with
  | one k => intro n hw; exact ⟨k, by simpa using hw⟩
  | @step k j q hl _ ht ih =>
    intro n hw
    obtain ⟨i, hi⟩ := ih (hw.next hl)
    refine ⟨i, ?_⟩
    rw [show n + 1 + q - 1 = n + (q + 1) - 1 by omega] at hi
    exact hi
theorem tail_way (hr : RightP l) (nb : NoBack l) (hw : Way l k n) : ∀ {m : Nat}, Tail l k m → Tail l 0 (n + m - 1) := by
  induction hw with
  | first => intro m h; rw [show 1 + m - 1 = m by omega]; exact h
  | @next k q j hw' hl ih =>
    intro m h
    have hf : k < j := by
      obtain ⟨d, hd, hj⟩ := hl
      exact leads_fwd hr hd (nb _ d ⟨_, hw'⟩ hd) hj
    have := ih (Tail.step hl hf h)
    rw [show q + (m + 1) - 1 = q + 1 + m - 1 by omega] at this
    exact this
theorem TAll.long (hr : rightB l = true) (h : TAll l 0 H) (h0 : H[0]? = some g) : LongIs l g true := by
  have hR := (rightB_iff l).1 hr
  have nb : NoBack l := fun k d hm hd => h.noback k d (Nat.zero_le _) hm hd
  have hb := h.best 0 g (Nat.le_refl _) h0
  refine .inl ⟨hr, nb, ⟨?_, fun k m hw => ?_⟩, rfl⟩
  · obtain ⟨j, hj⟩ := way_tail hb.is Way.first
    rw [show 1 + g - 1 = g by omega] at hj
    exact ⟨j, hj⟩
  · have := tail_way hR nb hw (Tail.one k)
    rw [show m + 1 - 1 = m by omega] at this
    exact hb.up m this
end

end Go.Proofs.YtapmechbliofeaaDoor
