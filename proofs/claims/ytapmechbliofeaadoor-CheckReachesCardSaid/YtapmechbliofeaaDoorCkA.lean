/- Layer 5 (check), as plain mathematics: what is wrong, where a program goes on, what can be come to, how many instructions are done. -/
import Derived.Test.YtapmechbliofeaaDoorInsM
namespace Go.Proofs.YtapmechbliofeaaDoor

/-- What is wrong with an instruction at place k of a program of n. -/
def wrongE (d : InsD) (k n : Nat) : Int :=
  if plainB d = false then 30
  else if d.op = 8 then (if d.imm < 4 then 0 else 1)
  else if d.op = 11 ∨ d.op = 13 then (if d.imm < 8 then 0 else 1)
  else if d.op = 21 then (if 1 ≤ d.imm ∧ d.imm ≤ 255 then 0 else 1)
  else if d.op = 17 ∨ d.op = 18 then (if (k : Int) < d.imm ∧ d.imm < n then 0 else 24)
  else if d.op = 19 then (if d.imm ≤ k then 0 else 24)
  else 0
def endsB (op : Int) : Bool := decide (op = 20 ∨ op = 21)
def wrongAt (l : List InsD) (k : Nat) : Int := match l[k]? with | some d => wrongE d k l.length | none => 0
theorem wrongAt_eq {l : List InsD} {k : Nat} (h : k < l.length) : wrongAt l k = wrongE l[k] k l.length := by
  unfold wrongAt
  rw [List.getElem?_eq_getElem h]

def lastOp (l : List InsD) : Int := match l[l.length - 1]? with | some d => d.op | none => 0
theorem lastOp_eq {l : List InsD} (h : 0 < l.length) : lastOp l = l[l.length - 1].op := by
  unfold lastOp
  rw [List.getElem?_eq_getElem (by omega)]

/-- The first fault. -/
def faultP (l : List InsD) : Int × Int :=
  if l.length = 0 then (0, 4)
  else if 256 < l.length then (256, 3)
  else match (List.range l.length).find? (fun k => decide (wrongAt l k ≠ 0)) with
    | some k => (k, wrongAt l k)
    | none => if endsB (lastOp l) then (0, 0) else (((l.length - 1 : Nat) : Int), 30)
theorem faultP_none : faultP [] = (0, 4) := rfl
theorem faultP_many {l : List InsD} (h : 256 < l.length) : faultP l = (256, 3) := by
  unfold faultP
  rw [if_neg (by omega), if_pos h]
theorem faultP_at {l : List InsD} {k : Nat} (h : l.length ≤ 256) (hk : k < l.length) (hw : wrongAt l k ≠ 0) (hc : ∀ j, j < k → wrongAt l j = 0) : faultP l = ((k : Int), wrongAt l k) := by
  unfold faultP
  rw [if_neg (by omega), if_neg (by omega)]
  have : (List.range l.length).find? (fun k => decide (wrongAt l k ≠ 0)) = some k := by
    rw [List.find?_range_eq_some]
    exact ⟨by simpa using hw, by simpa using hk, fun j hj => by simpa using hc j hj⟩
  rw [this]
theorem faultP_all {l : List InsD} (h0 : 0 < l.length) (h : l.length ≤ 256) (hc : ∀ j, j < l.length → wrongAt l j = 0) : faultP l = if endsB (lastOp l) then (0, 0) else (((l.length - 1 : Nat) : Int), 30) := by
  unfold faultP
  rw [if_neg (by omega), if_neg (by omega)]
  have : (List.range l.length).find? (fun k => decide (wrongAt l k ≠ 0)) = none := by
    rw [List.find?_range_eq_none]
    intro j hj
    simpa using hc j hj
  rw [this]
theorem wrongE_vals (d : InsD) (k n : Nat) : wrongE d k n = 0 ∨ wrongE d k n = 1 ∨ wrongE d k n = 24 ∨ wrongE d k n = 30 := by
  unfold wrongE
  repeat' split
  all_goals simp

/-- Right programs. -/
def rightB (l : List InsD) : Bool := decide ((faultP l).2 = 0)
structure RightP (l : List InsD) : Prop where
  pos : 0 < l.length
  le : l.length ≤ 256
  clean : ∀ j, j < l.length → wrongAt l j = 0
  ends : endsB (lastOp l) = true
theorem rightB_iff (l : List InsD) : rightB l = true ↔ RightP l := by
  unfold rightB
  rw [decide_eq_true_iff]
  constructor
  · intro h
    rcases Nat.eq_zero_or_pos l.length with h0 | h0
    · obtain rfl := List.eq_nil_of_length_eq_zero h0
      exact absurd h (by decide)
    · rcases Nat.lt_or_ge 256 l.length with h1 | h1
      · rw [faultP_many h1] at h
        exact absurd h (by decide)
      · by_cases hc : ∀ j, j < l.length → wrongAt l j = 0
        · rw [faultP_all h0 h1 hc] at h
          cases he : endsB (lastOp l)
          · rw [he] at h
            exact absurd h (by simp)
          · exact ⟨h0, h1, hc, he⟩
        · exfalso
          cases hf : (List.range l.length).find? (fun k => decide (wrongAt l k ≠ 0)) with
          | none =>
            apply hc
            rw [List.find?_range_eq_none] at hf
            intro j hj
            have := hf j hj
            simpa using this
          | some k =>
            have hf' := List.find?_range_eq_some.1 hf
            unfold faultP at h
            rw [if_neg (by omega), if_neg (by omega), hf] at h
            have h1 := hf'.1
            simp only [decide_eq_true_eq] at h1
            exact h1 h
  · rintro ⟨h0, h1, hc, he⟩
    rw [faultP_all h0 h1 hc, he]
    rfl
theorem right_fault {l : List InsD} (h : rightB l = true) : faultP l = (0, 0) := by
  obtain ⟨h0, h1, hc, he⟩ := (rightB_iff l).1 h
  rw [faultP_all h0 h1 hc, he]
  rfl

/-- How many words are written. -/
def costP (op : Int) : Int := if op = 10 ∨ op = 13 ∨ op = 14 then 1 else if op = 16 then 2 else if op = 15 then 9 else 0
def readsB (l : List InsD) : Bool := l.all (fun d => decide (costP d.op = 0)) && rightB l

/-- Where it goes on behind an instruction. -/
def nexts (d : InsD) (k : Nat) : List Nat :=
  if d.op = 17 then [d.imm.toNat] else if d.op = 18 ∨ d.op = 19 then [d.imm.toNat, k + 1] else if d.op = 20 ∨ d.op = 21 then [] else [k + 1]
def Leads (l : List InsD) (k j : Nat) : Prop := ∃ d, l[k]? = some d ∧ j ∈ nexts d k

/-- A way: n instructions are done, the last one at k. -/
inductive Way (l : List InsD) : Nat → Nat → Prop
  | first : Way l 0 1
  | next {k n j : Nat} (h : Way l k n) (hj : Leads l k j) : Way l j (n + 1)
def Met (l : List InsD) (k : Nat) : Prop := ∃ n, Way l k n

theorem right_at {l : List InsD} (h : RightP l) {k : Nat} {d : InsD} (hd : l[k]? = some d) : k < l.length ∧ wrongE d k l.length = 0 := by
  obtain ⟨hk, he⟩ := List.getElem?_eq_some_iff.1 hd
  refine ⟨hk, ?_⟩
  have := h.clean k hk
  rw [wrongAt_eq hk, he] at this
  exact this
theorem wrongE_plain {d : InsD} {k n : Nat} (h : wrongE d k n = 0) : plainB d = true := by
  unfold wrongE at h
  by_cases hp : plainB d = false
  · rw [if_pos hp] at h; omega
  · simpa using hp
theorem wrongE_goal {d : InsD} {k n : Nat} (h : wrongE d k n = 0) : (d.op = 17 ∨ d.op = 18 → (k : Int) < d.imm ∧ d.imm < n) ∧ (d.op = 19 → d.imm ≤ k) := by
  have hp := wrongE_plain h
  unfold wrongE at h
  rw [if_neg (by simp [hp])] at h
  refine ⟨fun ho => ?_, fun ho => ?_⟩
  · rw [if_neg (by omega), if_neg (by omega), if_neg (by omega), if_pos ho] at h
    by_cases hc : (k : Int) < d.imm ∧ d.imm < n
    · exact hc
    · rw [if_neg hc] at h; omega
  · rw [if_neg (by omega), if_neg (by omega), if_neg (by omega), if_neg (by omega), if_pos ho] at h
    by_cases hc : d.imm ≤ k
    · exact hc
    · rw [if_neg hc] at h; omega

/-- A right program stays within its instructions. -/
theorem nexts_lt {l : List InsD} (h : RightP l) {k : Nat} {d : InsD} (hd : l[k]? = some d) {j : Nat} (hj : j ∈ nexts d k) : j < l.length := by
  obtain ⟨hk, hw⟩ := right_at h hd
  obtain ⟨h1, h2⟩ := wrongE_goal hw
  have hlast : ¬ (d.op = 20 ∨ d.op = 21) → k + 1 < l.length := by
    intro hn
    rcases Nat.lt_or_ge (k + 1) l.length with hlt | hge
    · exact hlt
    · have hk1 : l.length - 1 = k := by omega
      have := h.ends
      unfold lastOp at this
      rw [hk1, hd] at this
      exact absurd (by simpa [endsB] using this) hn
  unfold nexts at hj
  by_cases c17 : d.op = 17
  · rw [if_pos c17] at hj
    have := h1 (.inl c17)
    simp at hj
    omega
  · rw [if_neg c17] at hj
    by_cases c18 : d.op = 18 ∨ d.op = 19
    · rw [if_pos c18] at hj
      have hl := hlast (by omega)
      simp at hj
      rcases hj with rfl | rfl
      · rcases c18 with c | c
        · have := h1 (.inr c); omega
        · have := h2 c; omega
      · exact hl
    · rw [if_neg c18] at hj
      by_cases c20 : d.op = 20 ∨ d.op = 21
      · rw [if_pos c20] at hj
        simp at hj
      · rw [if_neg c20] at hj
        simp at hj
        subst hj
        exact hlast c20
theorem way_lt {l : List InsD} (h : RightP l) {k n : Nat} (hw : Way l k n) : k < l.length := by
  cases hw with
  | first => exact h.pos
  | next _ hj => obtain ⟨d, hd, hj⟩ := hj; exact nexts_lt h hd hj
theorem met_lt {l : List InsD} (h : RightP l) {k : Nat} (hm : Met l k) : k < l.length := by
  obtain ⟨n, hn⟩ := hm
  exact way_lt h hn
theorem met_zero (l : List InsD) : Met l 0 := ⟨1, .first⟩
theorem Met.next {l : List InsD} {k j : Nat} (h : Met l k) (hj : Leads l k j) : Met l j := by
  obtain ⟨n, hn⟩ := h
  exact ⟨n + 1, hn.next hj⟩
theorem Met.rec' {l : List InsD} {P : Nat → Prop} (h0 : P 0) (hs : ∀ k j, P k → Leads l k j → P j) {k : Nat} (h : Met l k) : P k := by
  obtain ⟨n, hn⟩ := h
  induction hn with
  | first => exact h0
  | next _ hj ih => exact hs _ _ ih hj
theorem Way.pos {l : List InsD} {k n : Nat} (h : Way l k n) : 1 ≤ n := by
  cases h <;> omega

/-- What can be come to, as booleans; how many at most. -/
noncomputable def metB (l : List InsD) (k : Nat) : Bool := by
  classical exact decide (Met l k)
theorem metB_iff (l : List InsD) (k : Nat) : metB l k = true ↔ Met l k := by
  unfold metB
  simp
noncomputable def metL (l : List InsD) : List Bool := if rightB l then (List.range l.length).map (metB l) else []

def NoBack (l : List InsD) : Prop := ∀ k d, Met l k → l[k]? = some d → d.op ≠ 19
/-- n is how many are done at most. -/
def MostIs (l : List InsD) (n : Nat) : Prop := (∃ k, Way l k n) ∧ ∀ k m, Way l k m → m ≤ n
theorem MostIs.unique {l : List InsD} {n m : Nat} (h : MostIs l n) (h' : MostIs l m) : n = m := by
  obtain ⟨⟨k, hk⟩, h2⟩ := h
  obtain ⟨⟨k', hk'⟩, h2'⟩ := h'
  have := h2 _ _ hk'
  have := h2' _ _ hk
  omega
/-- What Longest hands out. -/
def LongIs (l : List InsD) (n : Nat) (ok : Bool) : Prop := (rightB l = true ∧ NoBack l ∧ MostIs l n ∧ ok = true) ∨ (¬ (rightB l = true ∧ NoBack l) ∧ n = 0 ∧ ok = false)
theorem LongIs.unique {l : List InsD} {n m : Nat} {a b : Bool} (h : LongIs l n a) (h' : LongIs l m b) : n = m ∧ a = b := by
  rcases h with ⟨r, nb, m1, rfl⟩ | ⟨hn, rfl, rfl⟩
  · rcases h' with ⟨_, _, m2, rfl⟩ | ⟨hn', _, _⟩
    · exact ⟨m1.unique m2, rfl⟩
    · exact absurd ⟨r, nb⟩ hn'
  · rcases h' with ⟨r, nb, _, _⟩ | ⟨_, rfl, rfl⟩
    · exact absurd ⟨r, nb⟩ hn
    · exact ⟨rfl, rfl⟩
end Go.Proofs.YtapmechbliofeaaDoor
