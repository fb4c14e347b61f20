/- ViewSteps' mathematics. -/
import Derived.Test.YtebffkoonbkhnaaVwX
namespace Go.Proofs.Ytebffkoonbkhnaa

/-- How many steps are left where each block lives. -/
def VwD.rem (v : VwD) : Nat := if v.st ≠ 0 then 0 else (if v.next = 0 then 1 else 0) + (if v.next = 2 then 0 else 1) + (if v.next = 2 ∨ v.pos ≠ -1 then 1 else 0)
structure SI (c : CfgD) (seq hd : Int) (want : Nat) (v : VwD) (steps : Nat) : Prop where
  sq : v.seq = seq
  st : v.st = 0 ∨ v.st = 1
  cnt : steps + v.rem = want
  nx : v.st = 0 → v.next = 0 ∨ v.next = 1 ∨ v.next = 2
  bl : v.st = 0 → v.next ≤ 1 → v.block = hd ∧ 0 ≤ hd ∧ hd < c.b
  hl : v.st = 0 → v.next = 2 → v.held = hd
  h1 : v.st = 1 → v.held = hd
section
variable {c : CfgD} {seq hd : Int} {want steps : Nat} {v : VwD}
theorem VwD.ask_st (c : CfgD) (v : VwD) : ∃ k p ov os nv ns, v.ask c = (⟨k, p, ov, os, nv, ns⟩, decide (v.st = 0)) := by
  unfold VwD.ask
  by_cases h0 : v.st = 0
  · rw [if_neg (by simp [h0]), decide_eq_true h0]; split
    · exact ⟨_, _, _, _, _, _, rfl⟩
    · split
      · exact ⟨_, _, _, _, _, _, rfl⟩
      · exact ⟨_, _, _, _, _, _, rfl⟩
  · rw [if_pos h0, decide_eq_false h0]
    exact ⟨_, _, _, _, _, _, rfl⟩
theorem SI.blk (h : SI c seq hd want v steps) (hc : c.Bd) : v.st = 0 → v.next = 0 → 0 ≤ v.block ∧ v.block < 64 := fun h0 h1 => by
  have := hc.b64
  have := h.bl h0 (by omega)
  omega
theorem SI.tell (h : SI c seq hd want v steps) (h0 : v.st = 0) : SI c seq hd want (v.tell 1 seq) (steps + 1) := by
  obtain ⟨sq, st, cnt, nx, bl, hl, h1⟩ := h
  unfold VwD.rem at cnt
  rw [if_neg (by simp [h0])] at cnt
  unfold VwD.tell
  rw [if_neg (by simp [h0])]
  rcases nx h0 with hn | hn | hn
  · rw [if_pos hn]
    have b := bl h0 (by omega)
    rw [if_pos hn, if_neg (by omega)] at cnt
    refine ⟨sq, .inl h0, ?_, fun _ => .inr (.inl rfl), fun _ _ => b, fun _ h => absurd h (by simp), fun h => absurd h (by simp [h0])⟩
    unfold VwD.rem
    simp only [h0]
    rw [if_neg (by simp), if_neg (by simp), if_neg (by simp)]
    by_cases hp : v.pos = -1
    · rw [if_neg (by simp [hp])]; rw [if_neg (by simp [hn, hp])] at cnt; omega
    · rw [if_pos (.inr hp)]; rw [if_pos (.inr hp)] at cnt; omega
  · rw [if_neg (by omega), if_neg (by omega), if_neg (by omega), if_neg (by simp)]
    have b := bl h0 (by omega)
    rw [if_neg (by omega), if_neg (by omega)] at cnt
    unfold VwD.last
    simp only
    by_cases hp : v.pos = -1
    · rw [if_pos hp]
      rw [if_neg (by simp [hn, hp])] at cnt
      refine ⟨sq, .inr rfl, ?_, fun h => absurd h (by simp), fun h => absurd h (by simp), fun h => absurd h (by simp), fun _ => b.1⟩
      unfold VwD.rem
      rw [if_pos (by simp)]
      omega
    · rw [if_neg hp]
      rw [if_pos (.inr hp)] at cnt
      refine ⟨sq, .inl rfl, ?_, fun _ => .inr (.inr rfl), fun _ h => absurd h (by simp), fun _ _ => b.1, fun h => absurd h (by simp)⟩
      unfold VwD.rem
      rw [if_neg (by simp), if_neg (by simp), if_pos rfl, if_pos (.inl rfl)]
      omega
  · rw [if_neg (by omega), if_neg (by omega), if_pos hn]
    rw [if_neg (by omega), if_pos hn, if_pos (.inl hn)] at cnt
    refine ⟨sq, .inr rfl, ?_, fun h => absurd h (by simp), fun h => absurd h (by simp), fun h => absurd h (by simp), fun _ => hl h0 hn⟩
    unfold VwD.rem
    rw [if_pos (by simp)]
    omega
/-- A reading is begun of something that is there. -/
theorem beg_SI (hs : v.seq = seq) (h2 : v.st ≠ 2) (block pos : Int) (hb : block = -1 ∨ (0 ≤ block ∧ block < c.b)) (hp : block = -1 → pos ≠ -1) :
    SI c seq (if block = -1 then v.held else block) ((if block = -1 ∨ block = v.held then 0 else 2) + (if pos = -1 then 0 else 1)) (v.beg true block pos) 0 := by
  unfold VwD.beg
  rw [if_neg h2, if_neg (show ¬ (true = false) by decide)]
  by_cases h : block = -1 ∨ block = v.held
  · rw [if_pos h, if_pos h]
    have e : (if block = -1 then v.held else block) = v.held := by
      split
      · rfl
      · rcases h with h | h
        · contradiction
        · exact h
    rw [e]
    unfold VwD.last
    simp only
    by_cases hq : pos = -1
    · rw [if_pos hq, if_pos hq]
      exact ⟨hs, .inr rfl, by unfold VwD.rem; rw [if_pos (by simp)], fun h => absurd h (by simp), fun h => absurd h (by simp), fun h => absurd h (by simp), fun _ => rfl⟩
    · rw [if_neg hq, if_neg hq]
      exact ⟨hs, .inl rfl, by unfold VwD.rem; rw [if_neg (by simp), if_neg (by simp), if_pos rfl, if_pos (.inl rfl)], fun _ => .inr (.inr rfl), fun _ h => absurd h (by simp), fun _ _ => rfl, fun h => absurd h (by simp)⟩
  · rw [if_neg h, if_neg h, if_neg (fun e => h (.inl e))]
    have hb' : 0 ≤ block ∧ block < c.b := hb.resolve_left (fun e => h (.inl e))
    refine ⟨hs, .inl rfl, ?_, fun _ => .inl rfl, fun _ _ => ⟨rfl, hb'⟩, fun _ h => absurd h (by simp), fun h => absurd h (by simp)⟩
    unfold VwD.rem
    rw [if_neg (by simp), if_pos rfl, if_neg (by simp)]
    by_cases hq : pos = -1
    · rw [if_pos hq, if_neg (by simp [hq])]
    · rw [if_neg hq, if_pos (.inr hq)]
theorem at_thing {c : CfgD} (h : c.Bd) (k : Nat) (hk : k < 17) (i j : Int) (hi : 0 ≤ i ∧ i < c.things k) (hj : 0 ≤ j ∧ j < c.places k) : c.at_ k i j ≠ -1 ∧ (c.what (c.at_ k i j)).1 = k := by
  have hh : c.Hit (c.beg k + i * c.apart k + j) k i j := ⟨hk, hi.1, hi.2, hj.1, hj.2, rfl⟩
  have e : c.at_ k i j = c.beg k + i * c.apart k + j := CfgD.at_of_hit hh
  obtain ⟨w1, w2, w3⟩ := CfgD.what_hit h hh
  rw [e, w1]
  exact ⟨by omega, rfl⟩
/-- How many steps a reading of the kind k takes. -/
def wantOf (k held b : Int) : Nat := if k = 1 ∨ k = 2 then (if b = held then 0 else 2) + (if k = 1 then 1 else 0) else 1
theorem req_SI (h : c.Bd) (hs : v.seq = seq) (h2 : v.st ≠ 2) (k b p : Int) (hk : 0 ≤ k ∧ k ≤ 3) (hb : 0 ≤ b ∧ b < c.b) (hp : 0 ≤ p ∧ p ≤ 7) :
    SI c seq (if k = 1 ∨ k = 2 then b else v.held) (wantOf k v.held b) (v.req c ⟨k, if k = 0 then c.at_ 11 b 0 else p, b⟩) 0 := by
  have cell : ∀ x : Int, x ≠ -1 → 7 ≤ (c.what x).1 → (c.what x).1 ≤ 15 → SI c seq v.held 1 (v.cell c x) 0 := fun x hx h7 h15 => by
    unfold VwD.cell
    rw [decide_eq_true h7, decide_eq_true h15]
    have := beg_SI (c := c) (block := -1) (pos := x) hs h2 (.inl rfl) (fun _ => hx)
    rw [if_pos rfl, if_pos (.inl rfl), if_neg hx] at this
    exact this
  have hne : b ≠ -1 := by omega
  unfold VwD.req wantOf
  simp only
  by_cases k0 : k = 0
  · rw [if_pos k0, if_pos k0, if_neg (by omega), if_neg (by omega)]
    obtain ⟨a1, a2⟩ := at_thing h 11 (by omega) b 0 hb ⟨by omega, by show (0 : Int) < 1; omega⟩
    have a2' : (c.what (c.at_ 11 b 0)).1 = 11 := a2
    exact cell _ a1 (by rw [a2']; decide) (by rw [a2']; decide)
  by_cases k1 : k = 1
  · rw [if_neg k0, if_pos k1, if_pos (.inl k1), if_pos (.inl k1), if_pos k1, if_neg k0]
    obtain ⟨a1, _⟩ := at_thing h 16 (by omega) b p hb ⟨hp.1, by show p < 8; omega⟩
    unfold VwD.word
    have a1' : c.at_ 16 b p ≠ -1 := a1
    rw [show (c.at_ 16 b p != -1) = true by simpa using a1']
    have := beg_SI (c := c) (block := b) (pos := c.at_ 16 b p) hs h2 (.inr hb) (fun e => absurd e hne)
    rw [if_neg hne, if_neg a1'] at this
    simpa [hne] using this
  by_cases k2 : k = 2
  · rw [if_neg k0, if_neg k1, if_pos k2, if_pos (.inr k2), if_pos (.inr k2), if_neg k1]
    obtain ⟨a1, _⟩ := at_thing h 11 (by omega) b 0 hb ⟨by omega, by show (0 : Int) < 1; omega⟩
    unfold VwD.live
    have a1' : c.at_ 11 b 0 ≠ -1 := a1
    rw [show (c.at_ 11 b 0 != -1) = true by simpa using a1']
    have := beg_SI (c := c) (block := b) (pos := -1) hs h2 (.inr hb) (fun e => absurd e hne)
    rw [if_neg hne, if_pos rfl] at this
    simpa [hne] using this
  · have k12 : ¬ (k = 1 ∨ k = 2) := by omega
    simp only [if_neg k0, if_neg k1, if_neg k2, if_neg k12]
    obtain ⟨x, hx, ex⟩ := andB_bound p 15 (by decide)
    have ex' : bits BinOp.and IntKind.i64 p 15 = (x : Int) := ex
    rw [ex']
    obtain ⟨a1, a2⟩ := at_thing h 10 (by omega) x 0 ⟨by omega, by show (x : Int) < 16; omega⟩ ⟨by omega, by show (0 : Int) < 1; omega⟩
    have a2' : (c.what (c.at_ 10 (x : Int) 0)).1 = 10 := a2
    exact cell _ a1 (by rw [a2']; decide) (by rw [a2']; decide)
theorem req_SI0 (h : c.Bd) (hs : v.seq = seq) (h2 : v.st ≠ 2) (b : Int) (hb : 0 ≤ b ∧ b < c.b) : SI c seq v.held 1 (v.req c ⟨0, c.at_ 11 b 0, b⟩) 0 := by
  have := req_SI h hs h2 0 b 0 (by omega) hb (by omega)
  simpa [wantOf] using this
theorem req_SI1 (h : c.Bd) (hs : v.seq = seq) (h2 : v.st ≠ 2) (b p : Int) (hb : 0 ≤ b ∧ b < c.b) (hp : 0 ≤ p ∧ p ≤ 7) : SI c seq b (if b = v.held then 1 else 3) (v.req c ⟨1, p, b⟩) 0 := by
  have := req_SI h hs h2 1 b p (by omega) hb hp
  by_cases e : b = v.held
  · rw [if_pos e]; simpa [wantOf, e] using this
  · rw [if_neg e]; simpa [wantOf, e] using this
theorem req_SI2 (h : c.Bd) (hs : v.seq = seq) (h2 : v.st ≠ 2) (b p : Int) (hb : 0 ≤ b ∧ b < c.b) (hp : 0 ≤ p ∧ p ≤ 7) : SI c seq b (if b = v.held then 0 else 2) (v.req c ⟨2, p, b⟩) 0 := by
  have := req_SI h hs h2 2 b p (by omega) hb hp
  by_cases e : b = v.held
  · rw [if_pos e]; simpa [wantOf, e] using this
  · rw [if_neg e]; simpa [wantOf, e] using this
theorem req_SI3 (h : c.Bd) (hs : v.seq = seq) (h2 : v.st ≠ 2) (b p : Int) (hb : 0 ≤ b ∧ b < c.b) (hp : 0 ≤ p ∧ p ≤ 7) : SI c seq v.held 1 (v.req c ⟨3, p, b⟩) 0 := by
  have := req_SI h hs h2 3 b p (by omega) hb hp
  simpa [wantOf] using this
theorem SI.rem0 (h : SI c seq hd want v steps) (h0 : v.st ≠ 0) : v.st = 1 ∧ steps = want ∧ v.held = hd := by
  have hs := h.st.resolve_left h0
  have := h.cnt
  unfold VwD.rem at this
  rw [if_pos h0] at this
  exact ⟨hs, by omega, h.h1 hs⟩
theorem wantOf_le (k held b : Int) : wantOf k held b ≤ 3 := by unfold wantOf; split <;> (try split) <;> (try split) <;> omega
theorem SI.lt9 (h : SI c seq hd want v steps) (hw : want ≤ 3) : steps < 9 := by have := h.cnt; omega
end
end Go.Proofs.Ytebffkoonbkhnaa
