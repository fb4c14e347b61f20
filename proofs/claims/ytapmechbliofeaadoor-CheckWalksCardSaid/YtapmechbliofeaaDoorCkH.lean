/- Layer 5 (check): Longest, as plain mathematics, and its memory. -/
import Derived.Test.YtapmechbliofeaaDoorCkG
namespace Go.Proofs.YtapmechbliofeaaDoor
open Go.RowKit

/-- h: how many are done at most ahead of j, by ways over places below k. -/
structure Best (l : List InsD) (k j h : Nat) : Prop where
  up : ∀ i m, i < k → Way l i m → Leads l i j → m ≤ h
  at_ : h = 0 ∨ ∃ i, i < k ∧ Way l i h ∧ Leads l i j
structure LRel (l : List InsD) (k : Nat) (H : List Nat) (most : Nat) : Prop where
  best : ∀ (j h : Nat), H[j]? = some h → Best l k j h
  up : ∀ i m, i < k → Way l i m → m ≤ most
  at_ : most = 0 ∨ ∃ i, Way l i most
structure LIn (l : List InsD) (k : Nat) (H : List Nat) (most : Nat) : Prop where
  len : H.length = l.length
  small : ∀ (j h : Nat), H[j]? = some h → h ≤ k
  mostSmall : most ≤ k
  noback : ∀ i d, i < k → Met l i → l[i]? = some d → d.op ≠ 19
  rel : NoBack l → LRel l k H most
/-- While an instruction's next ones are gone through. -/
structure LMid (l : List InsD) (k : Nat) (H H' : List Nat) (s : List Nat) (t done : Nat) : Prop where
  len : H'.length = l.length
  same : ∀ (j h' : Nat), H'[j]? = some h' → ∃ h : Nat, H[j]? = some h ∧ ((j ∈ s.take t ∧ h' = max h done) ∨ (¬ j ∈ s.take t ∧ h' = h))
section
variable {l : List InsD} {H H' s : List Nat} {k t most h : Nat} {d : InsD}
theorem leads_fwd (hr : RightP l) (hd : l[k]? = some d) (hb : d.op ≠ 19) {j : Nat} (hj : j ∈ nexts d k) : k < j := by
  obtain ⟨hk, hw⟩ := right_at hr hd
  obtain ⟨h1, _⟩ := wrongE_goal hw
  unfold nexts at hj
  by_cases c17 : d.op = 17
  · rw [if_pos c17] at hj
    have := h1 (.inl c17)
    simp at hj
    omega
  · rw [if_neg c17] at hj
    by_cases c18 : d.op = 18
    · rw [if_pos (.inl c18)] at hj
      have := h1 (.inr c18)
      simp at hj
      omega
    · rw [if_neg (by omega)] at hj
      split at hj <;> simp at hj
      omega
theorem LIn.first (_hr : RightP l) : LIn l 0 (List.replicate l.length 0) 0 := by
  refine ⟨by simp, fun j h hh => ?_, Nat.le_refl _, fun i d hi => absurd hi (by omega), fun _ => ⟨fun j h hh => ⟨fun i m hi => absurd hi (by omega), .inl ?_⟩, fun i m hi => absurd hi (by omega), .inl rfl⟩⟩
  · rw [List.getElem?_replicate] at hh
    split at hh <;> simp at hh
    omega
  · rw [List.getElem?_replicate] at hh
    split at hh <;> simp at hh
    omega
theorem LIn.skip (h : LIn l k H most) (hm : ¬ Met l k) : LIn l (k + 1) H most := by
  have hcut : ∀ i m, i < k + 1 → Way l i m → i < k := fun i m hi hw => by
    rcases Nat.lt_or_ge i k with h' | h'
    · exact h'
    · obtain rfl : i = k := by omega
      exact absurd ⟨m, hw⟩ hm
  refine ⟨h.len, fun j x hx => by have := h.small j x hx; omega, by have := h.mostSmall; omega, fun i d hi hme hd => ?_, fun nb => ?_⟩
  · obtain ⟨m, hw⟩ := hme
    exact h.noback i d (hcut i m hi hw) ⟨m, hw⟩ hd
  · obtain ⟨r1, r2, r3⟩ := h.rel nb
    refine ⟨fun j x hx => ⟨fun i m hi hw hl => (r1 j x hx).up i m (hcut i m hi hw) hw hl, ?_⟩, fun i m hi hw => r2 i m (hcut i m hi hw) hw, r3⟩
    rcases (r1 j x hx).at_ with h0 | ⟨i, hi, hw, hl⟩
    · exact .inl h0
    · exact .inr ⟨i, by omega, hw, hl⟩
theorem LMid.first (hl : H.length = l.length) (s : List Nat) (k done : Nat) : LMid l k H H s 0 done :=
  ⟨hl, fun j h' hh => ⟨h', hh, .inr ⟨by simp, rfl⟩⟩⟩
theorem LMid.next {done : Nat} (h : LMid l k H H' s t done) {y hy : Nat} (hs : s[t]? = some y) (hh : H'[y]? = some hy) : LMid l k H (H'.set y (max hy done)) s (t + 1) done := by
  have htk : s.take (t + 1) = s.take t ++ [y] := by
    rw [List.take_add_one, hs]
    rfl
  refine ⟨by simp [h.len], fun j h' hj => ?_⟩
  rw [htk]
  by_cases e : y = j
  · subst e
    have hlt := (List.getElem?_eq_some_iff.1 hh).1
    rw [List.getElem?_set_self hlt] at hj
    injection hj with hj
    obtain ⟨x, hx, hc⟩ := h.same y hy hh
    refine ⟨x, hx, .inl ⟨by simp, ?_⟩⟩
    rcases hc with ⟨_, h2⟩ | ⟨_, h2⟩ <;> omega
  · rw [List.getElem?_set_ne e] at hj
    obtain ⟨x, hx, hc⟩ := h.same j h' hj
    refine ⟨x, hx, ?_⟩
    rcases hc with ⟨h1, h2⟩ | ⟨h1, h2⟩
    · exact .inl ⟨by simp [h1], h2⟩
    · exact .inr ⟨by simp [h1]; exact fun e' => e e'.symm, h2⟩
theorem LMid.small {done : Nat} (h : LMid l k H H' s t done) (h0 : LIn l k H most) (hd : done ≤ k + 1) {j x : Nat} (hx : H'[j]? = some x) : x ≤ k + 1 := by
  obtain ⟨y, hy, hc⟩ := h.same j x hx
  have := h0.small j y hy
  rcases hc with ⟨_, h2⟩ | ⟨_, h2⟩ <;> omega
/-- What is known at an instruction that is met. -/
theorem LIn.here (hr : RightP l) (h0 : LIn l k H most) (nb : NoBack l) (hm : Met l k) (hh : H[k]? = some h) : Way l k (h + 1) ∧ ∀ m, Way l k m → m ≤ h + 1 := by
  have hb := (h0.rel nb).best k h hh
  have hfw : ∀ i m, Way l i m → Leads l i k → i < k := fun i m hw hl => by
    obtain ⟨d, hd, hj⟩ := hl
    exact leads_fwd hr hd (nb i d ⟨m, hw⟩ hd) hj
  have hup : ∀ m, Way l k m → m ≤ h + 1 := fun m hw => by
    cases hw with
    | first => omega
    | next hw' hl => have := hb.up _ _ (hfw _ _ hw' hl) hw' hl; omega
  refine ⟨?_, hup⟩
  rcases hb.at_ with e | ⟨i, _, hw, hl⟩
  · subst e
    obtain ⟨m, hw⟩ := hm
    have h1 := hup m hw
    have h2 := hw.pos
    obtain rfl : m = 1 := by omega
    exact hw
  · exact hw.next hl
theorem LMid.finish (hr : RightP l) (h0 : LIn l k H most) (hm : Met l k) (hd : l[k]? = some d) (hb : d.op ≠ 19) (hs : s = nexts d k) (hh : H[k]? = some h) (h1 : LMid l k H H' s s.length (h + 1)) : LIn l (k + 1) H' (max most (h + 1)) := by
  have hsm := h0.small k h hh
  refine ⟨h1.len, fun j x hx => h1.small h0 (by omega) hx, by have := h0.mostSmall; omega, fun i e hi hme he => ?_, fun nb => ?_⟩
  · rcases Nat.lt_or_ge i k with h' | h'
    · exact h0.noback i e h' hme he
    · obtain rfl : i = k := by omega
      rw [hd] at he
      injection he with he
      exact he ▸ hb
  · obtain ⟨hway, hup⟩ := h0.here hr nb hm hh
    obtain ⟨r1, r2, r3⟩ := h0.rel nb
    refine ⟨fun j x hx => ?_, fun i m hi hw => ?_, ?_⟩
    · obtain ⟨y, hy, hc⟩ := h1.same j x hx
      rw [List.take_length] at hc
      have hB := r1 j y hy
      have hlead : j ∈ s → Leads l k j := fun hj => ⟨d, hd, hs ▸ hj⟩
      have hlead' : Leads l k j → j ∈ s := fun hl => by
        obtain ⟨d', hd', hj⟩ := hl
        rw [hd] at hd'
        injection hd' with hd'
        rw [hs, hd']
        exact hj
      refine ⟨fun i m hi hw hl => ?_, ?_⟩
      · rcases Nat.lt_or_ge i k with h' | h'
        · have := hB.up i m h' hw hl
          rcases hc with ⟨_, h2⟩ | ⟨_, h2⟩ <;> omega
        · obtain rfl : i = k := by omega
          have := hup m hw
          rcases hc with ⟨_, h2⟩ | ⟨h3, _⟩
          · omega
          · exact absurd (hlead' hl) h3
      · rcases hc with ⟨hj, h2⟩ | ⟨_, h2⟩
        · rcases Nat.lt_or_ge y (h + 1) with h' | h'
          · refine .inr ⟨k, by omega, ?_, hlead hj⟩
            rw [show x = h + 1 by omega]
            exact hway
          · rw [show x = y by omega]
            rcases hB.at_ with e | ⟨i, hi, hw, hl⟩
            · exact .inl e
            · exact .inr ⟨i, by omega, hw, hl⟩
        · subst h2
          rcases hB.at_ with e | ⟨i, hi, hw, hl⟩
          · exact .inl e
          · exact .inr ⟨i, by omega, hw, hl⟩
    · rcases Nat.lt_or_ge i k with h' | h'
      · have := r2 i m h' hw
        omega
      · obtain rfl : i = k := by omega
        have := hup m hw
        omega
    · rcases Nat.lt_or_ge most (h + 1) with h' | h'
      · rw [show max most (h + 1) = h + 1 by omega]
        exact .inr ⟨k, hway⟩
      · rw [show max most (h + 1) = most by omega]
        exact r3
theorem LIn.long (hr : rightB l = true) (h : LIn l l.length H most) : LongIs l most true := by
  have hR := (rightB_iff l).1 hr
  have nb : NoBack l := fun k d hm hd => h.noback k d (List.getElem?_eq_some_iff.1 hd).1 hm hd
  obtain ⟨_, r2, r3⟩ := h.rel nb
  refine .inl ⟨hr, nb, ⟨?_, fun k m hw => r2 k m (way_lt hR hw) hw⟩, rfl⟩
  rcases r3 with e | e
  · have := r2 0 1 hR.pos .first
    omega
  · exact e
end

/-! ### Memory -/
def natsV (M : List Nat) : Array Value := (M.map natV).toArray
theorem natsV_get (M : List Nat) (k : Nat) : (natsV M)[k]? = M[k]?.map natV := by simp [natsV]
theorem natsV_set (M : List Nat) (k x : Nat) : (natsV M).setIfInBounds k (natV x) = natsV (M.set k x) := by simp [natsV, List.map_set]
theorem nats_made (n : Nat) : madeCells (Value.int .i64 0).cells (n * 1) = natsV (List.replicate n 0) := by
  apply Array.ext'
  rw [Nat.mul_one]
  show (madeCells #[Value.int .i64 0] n).toList = _
  rw [toList_madeCells_one]
  simp [natsV, natV]
structure LW (w W : World) (g r : Nat) (H : List Nat) (M : List Bool) : Prop where
  ahead : Blk W g 3 (natsV H)
  reach : Blk W r 4 (boolsV M)
  kept : Kept (fun _ => False) w W
  new : w.heap.size ≤ g
section
variable {w W W' : World} {g r : Nat} {H : List Nat} {M : List Bool}
theorem LW.step (h : LW w W g r H M) (k : Kept (fun _ => False) W W') : LW w W' g r H M := ⟨k.blk h.ahead (fun h => h), k.blk h.reach (fun h => h), h.kept.trans k, h.new⟩
theorem LW.store (h : LW w W g r H M) (j x : Nat) : LW w (W.setCell ⟨g, j, none⟩ (natV x)) g r (H.set j x) M := by
  refine ⟨?_, ?_, h.kept.setCell (.inr h.new) _, h.new⟩
  · rw [← natsV_set]
    exact h.ahead.set_ j _
  · exact h.reach.far (p := ⟨g, j, none⟩) (Blk.ne_ h.reach h.ahead (by decide)) _
end

def LongPost (w : World) (l : List InsD) (e : Ending) (w' : World) : Prop :=
  Kept (fun _ => False) w w' ∧ ∃ (m : Nat) (ok : Bool), e = .returned (.tuple #[.int .i64 (m : Int), .bool ok]) ∧ LongIs l m ok ∧ m ≤ l.length

end Go.Proofs.YtapmechbliofeaaDoor
