/- ViewTells' mathematics. -/
import Derived.Test.YthjkodjpopcjaaaVwX
namespace Go.Proofs.Ythjkodjpopcjaaa

/-- A reading that goes on over cells of none that is later. -/
def TI (c : CfgD) (kind seq : Int) (v : VwD) (told : Bool) (last : Int) : Prop :=
  v.seq = seq ∧ ((v.st = 0 ∧ (v.next = 0 ∨ v.next = 1 ∨ v.next = 2) ∧ (v.next ≤ 1 → 0 ≤ v.block ∧ v.block < c.b) ∧ (v.next = 2 → v.pos ≠ -1) ∧ (kind ≠ 2 → v.pos ≠ -1) ∧ v.val = 0) ∨
  (v.st = 1 ∧ (kind ≠ 2 → told = true ∧ v.val = last)) ∨ (v.st = 3 ∧ v.val = 0))
/-- How many steps are left. -/
def VwD.left (v : VwD) : Nat := if v.st = 0 then (3 - v.next).toNat else 0

theorem TI.ask {c : CfgD} {kind seq last : Int} {v : VwD} {told : Bool} (h : TI c kind seq v told last) : (v.ask c).2 = decide (v.st = 0) := by
  unfold VwD.ask
  by_cases h0 : v.st = 0
  · rw [if_neg (by simp [h0]), decide_eq_true h0]; split
    · rfl
    · split <;> rfl
  · rw [if_pos h0, decide_eq_false h0]
theorem TI.ask' {c : CfgD} {kind seq last : Int} {v : VwD} {told : Bool} (h : TI c kind seq v told last) : ∃ k p ov os nv ns, v.ask c = (⟨k, p, ov, os, nv, ns⟩, decide (v.st = 0)) := by
  cases ho : v.ask c with
  | mk o b =>
    have := h.ask
    rw [ho] at this
    obtain ⟨k, p, ov, os, nv, ns⟩ := o
    exact ⟨k, p, ov, os, nv, ns, by rw [← this]⟩
theorem TI.blk {c : CfgD} {kind seq last : Int} {v : VwD} {told : Bool} (h : TI c kind seq v told last) (hc : c.Bd) : v.st = 0 → v.next = 0 → 0 ≤ v.block ∧ v.block < 64 := fun h0 h1 => by
  have := hc.b64
  rcases h.2 with ⟨_, _, hb, _⟩ | ⟨hs, _⟩ | ⟨hs, _⟩
  · have := hb (by omega); omega
  · omega
  · omega
theorem TI.tell {c : CfgD} {kind seq last : Int} {v : VwD} {told : Bool} (h : TI c kind seq v told last) (h0 : v.st = 0) (x : Int) : TI c kind seq (v.tell x seq) true x ∧ (v.tell x seq).left < v.left := by
  obtain ⟨hs, h⟩ := h
  rcases h with ⟨_, hn, hb, hp, hk, hv⟩ | ⟨hs, _⟩ | ⟨hs, _⟩
  · unfold VwD.tell VwD.left
    rw [if_neg (by simp [h0]), if_pos h0]
    rcases hn with hn | hn | hn
    · rw [if_pos hn]
      simp only [h0, hn, if_true]
      exact ⟨⟨hs, .inl ⟨rfl, .inr (.inl rfl), fun _ => hb (by omega), fun h => by simp at h, hk, hv⟩⟩, by decide⟩
    · rw [if_neg (by omega), if_neg (by omega), if_neg (by omega)]
      by_cases hx : x = 1
      · rw [if_neg (by simp [hx])]
        unfold VwD.last
        by_cases hq : v.pos = -1
        · rw [if_pos hq]
          simp only [hn]
          exact ⟨⟨hs, .inr (.inl ⟨rfl, fun hk2 => absurd hq (hk hk2)⟩)⟩, by simp⟩
        · rw [if_neg hq]
          simp only [hn]
          exact ⟨⟨hs, .inl ⟨rfl, .inr (.inr rfl), fun h => absurd h (by simp), fun _ => hq, fun _ => hq, hv⟩⟩, by decide⟩
      · rw [if_pos hx]
        simp only [hn]
        exact ⟨⟨hs, .inr (.inr ⟨rfl, hv⟩)⟩, by simp⟩
    · rw [if_neg (by omega), if_neg (by omega), if_pos hn]
      simp only [hn]
      exact ⟨⟨hs, .inr (.inl ⟨rfl, fun _ => ⟨rfl, rfl⟩⟩)⟩, by simp⟩
  · omega
  · omega
theorem beg_TI {c : CfgD} {kind seq : Int} {v : VwD} (hs : v.seq = seq) (h2 : v.st ≠ 2) (there : Bool) (block pos : Int) (hb : there = true → block ≠ -1 → 0 ≤ block ∧ block < c.b) (hk : there = true → kind ≠ 2 → pos ≠ -1) (h1 : block = -1 → pos ≠ -1 ∨ there = false)
    (hh : kind ≠ 2 ∨ pos = -1) : TI c kind seq (v.beg there block pos) false 0 := by
  unfold VwD.beg
  rw [if_neg h2]
  cases there with
  | false => rw [if_pos rfl]; exact ⟨hs, .inr (.inr ⟨rfl, rfl⟩)⟩
  | true =>
    rw [if_neg (by simp)]
    by_cases h : block = -1 ∨ block = v.held
    · rw [if_pos h]
      unfold VwD.last
      simp only
      by_cases hp : pos = -1
      · rw [if_pos hp]
        exact ⟨hs, .inr (.inl ⟨rfl, fun hk2 => absurd hp (hk rfl hk2)⟩)⟩
      · rw [if_neg hp]
        exact ⟨hs, .inl ⟨rfl, .inr (.inr rfl), fun h => absurd h (by simp), fun _ => hp, fun _ => hp, rfl⟩⟩
    · rw [if_neg h]
      exact ⟨hs, .inl ⟨rfl, .inl rfl, fun _ => hb rfl (fun e => h (.inl e)), fun h => by simp at h, fun hk2 => hk rfl hk2, rfl⟩⟩
theorem at_ne {c : CfgD} (h : c.Bd) {k i j : Int} (hk : k = 11 ∨ k = 16) (hn : c.at_ k i j ≠ -1) : 0 ≤ i ∧ i < c.b := by
  obtain ⟨_, ⟨_, i0, i1, _⟩, _⟩ := CfgD.at_hit h hn
  rcases hk with rfl | rfl <;> exact ⟨i0, i1⟩
theorem req_TI {c : CfgD} (h : c.Bd) {seq : Int} {v : VwD} (hs : v.seq = seq) (h2 : v.st ≠ 2) (q : RqD) : TI c q.kind seq (v.req c q) false 0 := by
  have cell : ∀ p : Int, q.kind ≠ 2 → TI c q.kind seq (v.cell c p) false 0 := fun p hk => by
    have hp : (decide (7 ≤ (c.what p).1) && decide ((c.what p).1 ≤ 15)) = true → p ≠ -1 := fun ht e => by
      subst e
      rw [CfgD.what_out h (.inl (by omega))] at ht
      simp at ht
    unfold VwD.cell
    refine beg_TI hs h2 _ _ _ (fun _ hb => absurd rfl hb) (fun ht _ => hp ht) (fun _ => ?_) (.inl hk)
    cases ht : (decide (7 ≤ (c.what p).1) && decide ((c.what p).1 ≤ 15)) with
    | false => exact .inr rfl
    | true => exact .inl (hp ht)
  unfold VwD.req
  by_cases k0 : q.kind = 0
  · rw [if_pos k0]; exact cell _ (by omega)
  rw [if_neg k0]
  by_cases k1 : q.kind = 1
  · rw [if_pos k1]
    unfold VwD.word
    refine beg_TI hs h2 _ _ _ (fun ht _ => at_ne h (.inr rfl) (by simpa using ht)) (fun ht _ => by simpa using ht) (fun hb => ?_) (.inl (by omega))
    by_cases hn : c.at_ 16 q.block q.pos = -1
    · exact .inr (by simp [hn])
    · exact .inl hn
  rw [if_neg k1]
  by_cases k2 : q.kind = 2
  · rw [if_pos k2]
    unfold VwD.live
    refine beg_TI hs h2 _ _ _ (fun ht _ => at_ne h (.inl rfl) (by simpa using ht)) (fun _ hk => absurd k2 hk) (fun hb => ?_) (.inr rfl)
    by_cases hn : c.at_ 11 q.block 0 = -1
    · exact .inr (by simp [hn])
    · have := at_ne h (.inl rfl) hn
      omega
  · rw [if_neg k2]; exact cell _ k2
theorem TI.fine {c : CfgD} {kind seq last : Int} {v : VwD} {told : Bool} (h : TI c kind seq v told last) (h0 : v.st ≠ 0) :
    (v.st = 1 ∧ (kind = 2 ∨ (told = true ∧ v.val = last))) ∨ (v.st = 3 ∧ v.val = 0) := by
  rcases h.2 with ⟨hs, _⟩ | ⟨hs, hk⟩ | h
  · exact absurd hs h0
  · refine .inl ⟨hs, ?_⟩
    by_cases k : kind = 2
    · exact .inl k
    · exact .inr (hk k)
  · exact .inr h
end Go.Proofs.Ythjkodjpopcjaaa
