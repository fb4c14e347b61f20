/- Layer 5 (check): Reach, as plain mathematics, and its memory. -/
import Derived.Test.YtapmechbliofeaaDoorCkE
namespace Go.Proofs.YtapmechbliofeaaDoor
open Go.RowKit

/-- What is known while it is looked for: who is met, who is left to be looked at. -/
structure RIn (l : List InsD) (M : List Bool) (q : List Nat) : Prop where
  len : M.length = l.length
  zero : M[0]? = some true
  sound : ∀ k, M[k]? = some true → Met l k
  inq : ∀ k, k ∈ q → M[k]? = some true
  closed : ∀ k j, M[k]? = some true → ¬ k ∈ q → Leads l k j → M[j]? = some true
structure RMid (l : List InsD) (M : List Bool) (q : List Nat) (x : Nat) (s : List Nat) (t : Nat) : Prop where
  len : M.length = l.length
  zero : M[0]? = some true
  sound : ∀ k, M[k]? = some true → Met l k
  inq : ∀ k, k ∈ q → M[k]? = some true
  here : M[x]? = some true
  closed : ∀ k j, M[k]? = some true → ¬ k ∈ q → k ≠ x → Leads l k j → M[j]? = some true
  done : ∀ i y, i < t → s[i]? = some y → M[y]? = some true
section
variable {l : List InsD} {M : List Bool} {q s : List Nat} {x t : Nat} {d : InsD}
theorem RIn.first (h : RightP l) : RIn l ((List.replicate l.length false).set 0 true) [0] := by
  refine ⟨by simp, by simp [h.pos], fun k hk => ?_, fun k hk => ?_, fun k j hk hn => ?_⟩
  · rcases Nat.eq_zero_or_pos k with rfl | h0
    · exact met_zero l
    · rw [List.getElem?_set_ne (by omega), List.getElem?_replicate] at hk
      split at hk <;> simp at hk
  · simp at hk
    subst hk
    simp [h.pos]
  · exfalso
    rcases Nat.eq_zero_or_pos k with rfl | h0
    · exact hn (by simp)
    · rw [List.getElem?_set_ne (by omega), List.getElem?_replicate] at hk
      split at hk <;> simp at hk
theorem RIn.start (h : RIn l M (q ++ [x])) (s : List Nat) : RMid l M q x s 0 :=
  ⟨h.len, h.zero, h.sound, fun k hk => h.inq k (by simp [hk]), h.inq x (by simp), fun k j hk hn hx hl => h.closed k j hk (by simp [hn, hx]) hl, fun i y hi => absurd hi (by omega)⟩
theorem RMid.skip (h : RMid l M q x s t) {y : Nat} (hy : s[t]? = some y) (hm : M[y]? = some true) : RMid l M q x s (t + 1) :=
  ⟨h.len, h.zero, h.sound, h.inq, h.here, h.closed, fun i z hi hz => by
    rcases Nat.lt_or_ge i t with h' | h'
    · exact h.done i z h' hz
    · obtain rfl : i = t := by omega
      rw [hy] at hz
      injection hz with hz
      subst hz
      exact hm⟩
theorem set_true {k y : Nat} (h : M[k]? = some true) : (M.set y true)[k]? = some true := by
  have hk := (List.getElem?_eq_some_iff.1 h).1
  by_cases e : y = k
  · subst e
    simp [hk]
  · rw [List.getElem?_set_ne e]
    exact h
theorem set_inv {k y : Nat} (h : (M.set y true)[k]? = some true) : k = y ∨ M[k]? = some true := by
  by_cases e : y = k
  · exact .inl e.symm
  · rw [List.getElem?_set_ne e] at h
    exact .inr h
theorem RMid.add (h : RMid l M q x s t) (hd : l[x]? = some d) (hs : s = nexts d x) {y : Nat} (hy : s[t]? = some y) (hyl : y < l.length) : RMid l (M.set y true) (q ++ [y]) x s (t + 1) := by
  have hlen : y < M.length := by rw [h.len]; exact hyl
  have hself : (M.set y true)[y]? = some true := by simp [hlen]
  refine ⟨by simp [h.len], set_true h.zero, fun k hk => ?_, fun k hk => ?_, set_true h.here, fun k j hk hn hx hl => ?_, fun i z hi hz => ?_⟩
  · rcases set_inv hk with rfl | hk
    · exact (h.sound x h.here).next ⟨d, hd, by rw [← hs]; exact List.mem_of_getElem? hy⟩
    · exact h.sound k hk
  · rcases List.mem_append.1 hk with hk | hk
    · exact set_true (h.inq k hk)
    · simp at hk
      subst hk
      exact hself
  · rcases set_inv hk with rfl | hk
    · exact absurd (by simp) hn
    · exact set_true (h.closed k j hk (fun hm => hn (by simp [hm])) hx hl)
  · rcases Nat.lt_or_ge i t with h' | h'
    · exact set_true (h.done i z h' hz)
    · obtain rfl : i = t := by omega
      rw [hy] at hz
      injection hz with hz
      subst hz
      exact hself
theorem RMid.finish (h : RMid l M q x s s.length) (hd : l[x]? = some d) (hs : s = nexts d x) : RIn l M q := by
  refine ⟨h.len, h.zero, h.sound, h.inq, fun k j hk hn hl => ?_⟩
  by_cases e : k = x
  · subst e
    obtain ⟨d', hd', hj⟩ := hl
    rw [hd] at hd'
    injection hd' with hd'
    subst hd'
    rw [← hs] at hj
    obtain ⟨i, hi⟩ := List.getElem?_of_mem hj
    exact h.done i j (List.getElem?_eq_some_iff.1 hi).1 hi
  · exact h.closed k j hk hn e hl
theorem RIn.met (h : RIn l M []) {k : Nat} (hm : Met l k) : M[k]? = some true :=
  Met.rec' (P := fun k => M[k]? = some true) h.zero (fun k j hk hl => h.closed k j hk (by simp) hl) hm
theorem RIn.all (h : RIn l M []) (hr : rightB l = true) : M = metL l := by
  unfold metL
  rw [if_pos hr]
  apply List.ext_getElem?
  intro k
  rcases Nat.lt_or_ge k l.length with hk | hk
  · rw [List.getElem?_map, List.getElem?_range hk]
    have hkM : k < M.length := by rw [h.len]; exact hk
    rw [List.getElem?_eq_getElem hkM]
    show some M[k] = some (metB l k)
    congr 1
    cases hb : metB l k
    · cases hM : M[k]
      · rfl
      · have := h.sound k (by rw [List.getElem?_eq_getElem hkM, hM])
        rw [← metB_iff, hb] at this
        cases this
    · have := h.met ((metB_iff l k).1 hb)
      rw [List.getElem?_eq_getElem hkM] at this
      injection this
  · rw [List.getElem?_eq_none (by rw [h.len]; exact hk), List.getElem?_eq_none (by simpa using hk)]
theorem count_add {y : Nat} (h : M[y]? = some false) : (M.set y true).countP (fun b => !b) + 1 = M.countP (fun b => !b) := by
  induction M generalizing y with
  | nil => simp at h
  | cons b M ih =>
    cases y with
    | zero =>
      simp at h
      subst h
      simp
    | succ y =>
      have := ih (y := y) (by simpa using h)
      rw [List.set_cons_succ, List.countP_cons, List.countP_cons]
      omega
end

/-! ### Memory -/
def isF : Value → Bool
  | .bool false => true
  | _ => false
def unmet (w : World) (g : Nat) : Nat := match w.heap[g]? with | some (.cells cs _ _) => cs.toList.countP isF | _ => 0
def lenOf : Value → Nat
  | .slice _ n _ => n
  | _ => 0
def boolsV (M : List Bool) : Array Value := (M.map Value.bool).toArray
theorem unmet_eq {w : World} {g : Nat} {t : TypeId} {M : List Bool} (h : Blk w g t (boolsV M)) : unmet w g = M.countP (fun b => !b) := by
  unfold unmet boolsV at *
  unfold Blk at h
  rw [h]
  simp only [List.countP_map]
  congr 1
  funext b
  cases b <;> rfl
theorem boolsV_get (M : List Bool) (k : Nat) : (boolsV M)[k]? = M[k]?.map Value.bool := by simp [boolsV]
theorem boolsV_set (M : List Bool) (k : Nat) (b : Bool) : (boolsV M).setIfInBounds k (.bool b) = boolsV (M.set k b) := by simp [boolsV, List.map_set]
theorem bools_made (n : Nat) : madeCells (Value.bool false).cells (n * 1) = boolsV (List.replicate n false) := by
  apply Array.ext'
  rw [Nat.mul_one]
  show (madeCells #[Value.bool false] n).toList = _
  rw [toList_madeCells_one]
  simp [boolsV]

structure RW (w W : World) (g : Nat) (M : List Bool) (v : Value) (q : List Nat) : Prop where
  met : Blk W g 4 (boolsV M)
  own : W.ownsRow (g + 1) 3 1 v q.length (q.map natV)
  kept : Kept (fun _ => False) w W
  new : w.heap.size ≤ g
section
variable {w W W' : World} {g : Nat} {M : List Bool} {v : Value} {q : List Nat}
theorem RW.step (h : RW w W g M v q) (k : Kept (fun _ => False) W W') : RW w W' g M v q :=
  ⟨k.blk h.met (fun h => h), k.own h.own (fun _ _ h => h), h.kept.trans k, h.new⟩
theorem RW.store (h : RW w W g M v q) (j : Nat) (b : Bool) : RW w (W.setCell ⟨g, j, none⟩ (.bool b)) g (M.set j b) v q := by
  refine ⟨?_, ?_, h.kept.setCell (.inr h.new) _, h.new⟩
  · rw [← boolsV_set]
    exact h.met.set_ j _
  · exact (Kept.setCell (S := fun k => k = g) (Kept.refl _ W) (p := ⟨g, j, none⟩) (.inl rfl) _).own h.own (fun k hk he => by
      have := (h.own.lt k hk).1
      omega)
theorem own_prefix {base : Nat} {e : TypeId} {A : Option Addr} {n c : Nat} {xs : List Value} {x : Value} (h : W.ownsRow base e 1 (.slice A (n + 1) c) (n + 1) (xs ++ [x])) : W.ownsRow base e 1 (.slice A n c) n xs := by
  obtain ⟨hl, hv⟩ := h
  have hxs : xs.length = n := by simp at hl; exact hl
  rcases hv with ⟨_, h0⟩ | ⟨g, cap, cur, hv, hb, hg, hn, hm, hs, ht⟩
  · omega
  · injection hv with h1 h2 h3
    subst h1 h3
    refine ⟨by omega, .inr ⟨g, c, cur, rfl, hb, hg, by omega, hm, hs, ?_⟩⟩
    have := congrArg (List.take n) ht
    have e2 : xs.take n = xs := List.take_of_length_le (by omega)
    rw [List.take_take, List.take_append_of_le_length (by omega), e2, show min n ((n + 1) * 1) = n by omega] at this
    rw [Nat.mul_one]
    exact this
theorem RW.pop {A : Option Addr} {c x : Nat} (h : RW w W g M (.slice A (q.length + 1) c) (q ++ [x])) : RW w W g M (.slice A q.length c) q := by
  have ho := h.own
  rw [List.length_append, List.map_append] at ho
  exact ⟨h.met, own_prefix ho, h.kept, h.new⟩
theorem RW.push {A A3 : Option Addr} {c c3 y : Nat} {o : Obj} (h : RW w W g M (.slice A q.length c) q) {w3 : World} (hown : w3.ownsRow (g + 1) 3 1 (.slice A3 (q.length + 1) c3) (q.length + 1) (q.map natV ++ [natV y]))
    (hgrow : (W.alloc o).grownBy w3 (Value.slice A q.length c).ownBlock) : RW w w3 g M (.slice A3 (q ++ [y]).length c3) (q ++ [y]) := by
  have hne : ∀ x, (Value.slice A q.length c).ownBlock = some x → g + 1 ≤ x := fun x hx => (h.own.lt x hx).1
  refine ⟨(h.met.alloc o).grown hgrow (fun e => by have := hne g e.symm; omega), ?_, Kept.push (h.kept.alloc o) hgrow (fun x hx => by have := hne x hx; have := h.new; omega), h.new⟩
  rw [List.length_append, List.map_append]
  exact hown
end

theorem infoBool : (Tryd.prog.info? 4).map (fun i => (i.zero, i.size, i.bytes)) = some (some (.bool false), 1, 1) := by kernel_rfl
theorem infoInt : (Tryd.prog.info? 3).map (fun i => (i.zero, i.size, i.bytes)) = some (some (.int .i64 0), 1, 8) := by kernel_rfl

/-- What Reach hands out. -/
def ReachPost (w : World) (l : List InsD) (e : Ending) (w' : World) : Prop :=
  Kept (fun _ => False) w w' ∧ ((rightB l = true ∧ ∃ g, e = .returned (.slice (some ⟨g, 0, none⟩) l.length l.length) ∧ w.heap.size ≤ g ∧ Blk w' g 4 (boolsV (metL l))) ∨ (rightB l = false ∧ e = .returned (.slice none 0 0)))

end Go.Proofs.YtapmechbliofeaaDoor
