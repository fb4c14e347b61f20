/- Layer 5 (check): CheckJoins, as plain mathematics. -/
import Derived.Test.YtapmechbliofeaaDoorCkCu
namespace Go.Proofs.YtapmechbliofeaaDoor

/-- An instruction whose goal is moved. -/
def mv (n : Nat) (d : InsD) : InsD := if 17 ≤ d.op ∧ d.op ≤ 19 then { d with imm := d.imm + n } else d
theorem mv_op (n : Nat) (d : InsD) : (mv n d).op = d.op := by
  unfold mv
  split <;> rfl
theorem mv_plain (n : Nat) (d : InsD) : plainB (mv n d) = plainB d := by
  unfold mv
  split
  · rename_i h
    unfold plainB
    have : immB d.op = true := by
      unfold immB
      rw [decide_eq_true_iff]
      omega
    simp [this]
  · rfl
theorem mv_right {d : InsD} {k m n : Nat} (h : wrongE d k m = 0) : wrongE (mv n d) (n + k) (n + m) = 0 := by
  have hp := wrongE_plain h
  obtain ⟨g1, g2⟩ := wrongE_goal h
  by_cases ho : 17 ≤ d.op ∧ d.op ≤ 19
  · have e : mv n d = { d with imm := d.imm + n } := by unfold mv; rw [if_pos ho]
    have hp' := mv_plain n d
    rw [e] at hp' ⊢
    unfold wrongE
    rw [if_neg (by rw [hp', hp]; decide)]
    simp only
    rw [if_neg (by omega), if_neg (by omega), if_neg (by omega)]
    by_cases h19 : d.op = 19
    · have := g2 h19
      rw [if_neg (by omega), if_pos h19, if_pos (by omega)]
    · have := g1 (by omega)
      rw [if_pos (by omega), if_pos (by omega)]
  · have e : mv n d = d := by unfold mv; rw [if_neg ho]
    rw [e]
    have e2 : wrongE d (n + k) (n + m) = wrongE d k m := by
      unfold wrongE
      have h17 : ¬ (d.op = 17 ∨ d.op = 18) := by omega
      have h19 : ¬ d.op = 19 := by omega
      rw [if_neg h17, if_neg h17, if_neg h19, if_neg h19]
    rw [e2, h]

def bothL (a b : List InsD) : List InsD := a ++ b.map (mv a.length)
theorem bothL_length (a b : List InsD) : (bothL a b).length = a.length + b.length := by simp [bothL]
theorem both_left {a b : List InsD} {k : Nat} (hk : k < a.length) : (bothL a b)[k]? = a[k]? := by
  unfold bothL
  rw [List.getElem?_append_left hk]
theorem both_right {a b : List InsD} (ha : RightP a) (hb : RightP b) (hl : a.length + b.length ≤ 256) : RightP (bothL a b) := by
  have hlen := bothL_length a b
  have h1 := ha.pos
  have h2 := hb.pos
  refine ⟨by omega, by omega, fun j hj => ?_, ?_⟩
  · rcases Nat.lt_or_ge j a.length with h | h
    · have hc := ha.clean j h
      rw [wrongAt_eq h] at hc
      unfold wrongAt
      rw [both_left h, List.getElem?_eq_getElem h, hlen]
      exact wrongE_more hc (by omega)
    · have hjb : j - a.length < b.length := by omega
      have hc := hb.clean (j - a.length) hjb
      rw [wrongAt_eq hjb] at hc
      have := mv_right (n := a.length) hc
      unfold wrongAt
      rw [hlen]
      unfold bothL
      rw [List.getElem?_append_right h, List.getElem?_map, List.getElem?_eq_getElem hjb]
      show wrongE (mv a.length b[j - a.length]) j (a.length + b.length) = 0
      rw [show a.length + (j - a.length) = j by omega] at this
      exact this
  · have he := hb.ends
    rw [lastOp_eq h2] at he
    have : lastOp (bothL a b) = b[b.length - 1].op := by
      unfold lastOp
      rw [hlen]
      unfold bothL
      rw [List.getElem?_append_right (by omega), List.getElem?_map, show a.length + b.length - 1 - a.length = b.length - 1 by omega, List.getElem?_eq_getElem (by omega)]
      exact mv_op _ _
    rw [this]
    exact he
theorem both_reads {a b : List InsD} (ha : RightP a) (hb : RightP b) (hl : a.length + b.length ≤ 256) : readsB (bothL a b) = (readsB a && readsB b) := by
  unfold readsB
  rw [(rightB_iff _).2 (both_right ha hb hl), (rightB_iff _).2 ha, (rightB_iff _).2 hb]
  unfold bothL
  rw [List.all_append, List.all_map]
  have : ((fun d : InsD => decide (costP d.op = 0)) ∘ mv a.length) = fun d => decide (costP d.op = 0) := by
    funext d
    simp [mv_op]
  rw [this]
  simp
theorem both_way {a b : List InsD} (ha : RightP a) {k n : Nat} : Way (bothL a b) k n ↔ Way a k n := by
  constructor
  · intro h
    induction h with
    | first => exact .first
    | next _ hj ih =>
      obtain ⟨d, hd, hj⟩ := hj
      rw [both_left (way_lt ha ih)] at hd
      exact ih.next ⟨d, hd, hj⟩
  · intro h
    induction h with
    | first => exact .first
    | next h' hj ih =>
      obtain ⟨d, hd, hj⟩ := hj
      rw [← both_left (b := b) (way_lt ha h')] at hd
      exact ih.next ⟨d, hd, hj⟩
theorem both_met {a b : List InsD} (ha : RightP a) {k : Nat} : Met (bothL a b) k ↔ Met a k := by
  unfold Met
  constructor
  · rintro ⟨n, h⟩; exact ⟨n, (both_way ha).1 h⟩
  · rintro ⟨n, h⟩; exact ⟨n, (both_way ha).2 h⟩
theorem both_metB {a b : List InsD} (ha : RightP a) (k : Nat) : metB (bothL a b) k = metB a k := by
  apply Bool.eq_iff_iff.2
  rw [metB_iff, metB_iff, both_met ha]
theorem metB_out {a : List InsD} (ha : RightP a) {k : Nat} (hk : a.length ≤ k) : metB a k = false := by
  cases h : metB a k
  · rfl
  · have := met_lt ha ((metB_iff a k).1 h)
    omega
theorem both_long {a b : List InsD} (ha : RightP a) (hb : RightP b) (hl : a.length + b.length ≤ 256) {m : Nat} {ok : Bool} (h : LongIs a m ok) : LongIs (bothL a b) m ok := by
  have hr := (rightB_iff _).2 (both_right ha hb hl)
  have hra := (rightB_iff _).2 ha
  have hnb : NoBack (bothL a b) ↔ NoBack a := by
    unfold NoBack
    constructor
    · intro hn k d hm hd
      refine hn k d ((both_met ha).2 hm) ?_
      rw [both_left (met_lt ha hm)]
      exact hd
    · intro hn k d hm hd
      have hm' := (both_met ha).1 hm
      rw [both_left (met_lt ha hm')] at hd
      exact hn k d hm' hd
  rcases h with ⟨_, nb, ⟨⟨k, hk⟩, hm⟩, rfl⟩ | ⟨hn, rfl, rfl⟩
  · exact .inl ⟨hr, hnb.2 nb, ⟨⟨k, (both_way ha).2 hk⟩, fun k m hw => hm k m ((both_way ha).1 hw)⟩, rfl⟩
  · exact .inr ⟨fun h => hn ⟨hra, hnb.1 h.2⟩, rfl, rfl⟩

end Go.Proofs.YtapmechbliofeaaDoor
