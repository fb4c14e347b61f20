/- Layer 10, mathematics: blocks that are taken one after the other. -/
import Derived.Test.YthjkodjpopcjaaaPoP
namespace Go.Proofs.Ythjkodjpopcjaaa
theorem at_what {c : CfgD} (hc : c.Bd) {k i j : Int} (h : c.at_ k i j ≠ -1) : c.what (c.at_ k i j) = (k, i, j) := by
  obtain ⟨h0, hh, _, _⟩ := CfgD.at_hit hc h
  have := (CfgD.what_hit hc hh).1
  rwa [show ((k.toNat : Nat) : Int) = k by omega] at this
theorem at_inj {c : CfgD} (hc : c.Bd) {k i j k' i' j' : Int} (h : c.at_ k i j ≠ -1) (e : c.at_ k' i' j' = c.at_ k i j) : k' = k ∧ i' = i ∧ j' = j := by
  have h1 := at_what hc h
  have h2 := at_what hc (k := k') (i := i') (j := j') (by rw [e]; exact h)
  rw [e, h1] at h2
  injection h2 with a b
  injection b with b d
  exact ⟨a.symm, b.symm, d.symm⟩
theorem at_nn {c : CfgD} (hc : c.Bd) (k : Nat) (hk : k < 17) {i j : Int} (hi : 0 ≤ i ∧ i < c.things k) (hj : 0 ≤ j ∧ j < c.places k) : c.at_ k i j ≠ -1 := by
  have hh : c.Hit (c.beg k + i * c.apart k + j) k i j := ⟨hk, hi.1, hi.2, hj.1, hj.2, rfl⟩
  rw [CfgD.at_of_hit hh]
  obtain ⟨_, _, _, h4, _, h6, _⟩ := CfgD.shape_bd hc k hk
  have := Int.mul_nonneg hi.1 (show 0 ≤ c.apart k by omega)
  omega
theorem at11n {c : CfgD} (hc : c.Bd) {a : Int} (h : 0 ≤ a ∧ a < c.b) : c.at_ 11 a 0 ≠ -1 := at_nn hc 11 (by decide) h ⟨Int.le_refl _, by show (0 : Int) < 1; decide⟩
theorem at13n {c : CfgD} (hc : c.Bd) {a : Int} (h : 0 ≤ a ∧ a < c.b) : c.at_ 13 a 0 ≠ -1 := at_nn hc 13 (by decide) h ⟨Int.le_refl _, by show (0 : Int) < 1; decide⟩
theorem at16n {c : CfgD} (hc : c.Bd) {a j : Int} (h : 0 ≤ a ∧ a < c.b) (hj : 0 ≤ j ∧ j < 8) : c.at_ 16 a j ≠ -1 := at_nn hc 16 (by decide) h hj
theorem look_app (es l : List (Int × Int)) (a : Int) : look (es ++ l) a = (look es a).or (look l a) := by
  induction es with
  | nil => rfl
  | cons e r ih =>
    show (if e.1 = a then some e.2 else look (r ++ l) a) = (if e.1 = a then some e.2 else look r a).or (look l a)
    split
    · rfl
    · exact ih
theorem look_none {es : List (Int × Int)} {a : Int} (h : ∀ x ∈ es, x.1 ≠ a) : look es a = none := by
  induction es with
  | nil => rfl
  | cons e r ih =>
    show (if e.1 = a then some e.2 else look r a) = none
    rw [if_neg (h e (by simp))]
    exact ih (fun x hx => h x (by simp [hx]))
theorem ents_putsS_new (r : Int) : ∀ (l ps : List (Int × Int)), (∀ e ∈ l, look (ents ps) e.1 = none) → l.Pairwise (fun a b => a.1 ≠ b.1) → (((ents ps).length + l.length : Nat) : Int) ≤ r → ents (putsS r ps l) = ents ps ++ l
  | [], ps, _, _, _ => by simp [putsS]
  | e :: l, ps, h, hp, hr => by
    have hn := h e (by simp)
    have hf : fits r ps e.1 = true := by
      unfold fits
      rw [hn]
      simp only [Option.isSome_none, Bool.false_or]
      exact decide_eq_true (by simp at hr; omega)
    have e1 : putS r ps e = ps ++ [e] := by unfold putS; rw [if_pos hf]
    have e2 : ents (ps ++ [e]) = ents ps ++ [e] := ents_new (idx_of_none hn)
    show ents (putsS r (putS r ps e) l) = _
    have hp' := List.pairwise_cons.1 hp
    rw [e1, ents_putsS_new r l (ps ++ [e]) (fun x hx => by rw [look_put, if_neg (fun he => hp'.1 x hx he.symm)]; exact h x (by simp [hx])) hp'.2 (by rw [e2, List.length_append]; simp at hr ⊢; omega), e2]
    simp
def blkL (c : CfgD) (a : Nat) : List (Int × Int) := (c.at_ 11 (a : Int) 0, 1) :: noughts c (a : Int) 8
def ctP (c : CfgD) (r : Int) : Nat → List (Int × Int)
  | 0 => []
  | k + 1 => putsS r (ctP c r k) (blkL c k)
def ctE (c : CfgD) : Nat → List (Int × Int)
  | 0 => []
  | k + 1 => ctE c k ++ blkL c k
theorem blkL_len (c : CfgD) (a : Nat) : (blkL c a).length = 9 := by simp [blkL, noughts]
theorem ctE_len (c : CfgD) : ∀ k, (ctE c k).length = 9 * k
  | 0 => rfl
  | k + 1 => by
    show (ctE c k ++ blkL c k).length = _
    rw [List.length_append, ctE_len c k, blkL_len]
    omega
theorem blkL_mem {c : CfgD} {a : Nat} {e : Int × Int} (h : e ∈ blkL c a) : e.1 = c.at_ 11 (a : Int) 0 ∨ ∃ j : Nat, j < 8 ∧ e.1 = c.at_ 16 (a : Int) (j : Int) := by
  unfold blkL noughts at h
  rcases List.mem_cons.1 h with rfl | h
  · exact .inl rfl
  · obtain ⟨j, hj, rfl⟩ := List.mem_map.1 h
    exact .inr ⟨j, List.mem_range.1 hj, rfl⟩
theorem ctE_mem {c : CfgD} {e : Int × Int} : ∀ {k : Nat}, e ∈ ctE c k → ∃ a, a < k ∧ e ∈ blkL c a
  | k + 1, h => by
    rcases List.mem_append.1 h with h | h
    · obtain ⟨a, ha, he⟩ := ctE_mem h
      exact ⟨a, by omega, he⟩
    · exact ⟨k, by omega, h⟩
theorem blkL_ne {c : CfgD} (hc : c.Bd) {a a' : Nat} (h : a ≠ a') (h1 : (a : Int) < c.b) {e e' : Int × Int} (he : e ∈ blkL c a) (he' : e' ∈ blkL c a') : e'.1 ≠ e.1 := by
  intro hh
  rcases blkL_mem he with x | ⟨j, hj, x⟩
  · rcases blkL_mem he' with y | ⟨j', hj', y⟩
    · rw [x, y] at hh
      have := (at_inj hc (at11n hc ⟨by omega, h1⟩) hh).2.1
      omega
    · rw [x, y] at hh
      have := (at_inj hc (at11n hc ⟨by omega, h1⟩) hh).1
      omega
  · rcases blkL_mem he' with y | ⟨j', hj', y⟩
    · rw [x, y] at hh
      have := (at_inj hc (at16n hc ⟨by omega, h1⟩ ⟨by omega, by omega⟩) hh).1
      omega
    · rw [x, y] at hh
      have := (at_inj hc (at16n hc ⟨by omega, h1⟩ ⟨by omega, by omega⟩) hh).2.1
      omega
theorem blkL_pair {c : CfgD} (hc : c.Bd) {a : Nat} (h1 : (a : Int) < c.b) : (blkL c a).Pairwise (fun x y => x.1 ≠ y.1) := by
  unfold blkL
  refine List.pairwise_cons.2 ⟨fun x hx hh => ?_, ?_⟩
  · obtain ⟨j, hj, rfl⟩ := List.mem_map.1 hx
    have := (at_inj hc (at11n hc ⟨by omega, h1⟩) hh.symm).1
    omega
  · unfold noughts
    rw [List.pairwise_map]
    refine List.Pairwise.imp_of_mem (fun {i j} hi hj hij hh => ?_) List.pairwise_lt_range
    have := (at_inj hc (at16n hc (a := (a : Int)) (j := (j : Int)) ⟨by omega, h1⟩ ⟨by omega, by have := List.mem_range.1 hj; omega⟩) hh).2.2
    omega
theorem ct_fresh {c : CfgD} (hc : c.Bd) {k : Nat} (h1 : (k : Int) < c.b) {e : Int × Int} (he : e ∈ blkL c k) : look (ctE c k) e.1 = none :=
  look_none (fun x hx => by
    obtain ⟨a, ha, hx⟩ := ctE_mem hx
    exact blkL_ne hc (by omega) h1 he hx)
theorem ct_ents {c : CfgD} (hc : c.Bd) {r : Int} : ∀ k : Nat, (k : Int) ≤ c.b → ((9 * k : Nat) : Int) ≤ r → ents (ctP c r k) = ctE c k
  | 0, _, _ => rfl
  | k + 1, h, hr => by
    have ih := ct_ents hc (r := r) k (by omega) (by omega)
    show ents (putsS r (ctP c r k) (blkL c k)) = ctE c k ++ blkL c k
    rw [ents_putsS_new r (blkL c k) (ctP c r k) (fun e he => by rw [ih]; exact ct_fresh hc (by omega) he) (blkL_pair hc (by omega)) (by rw [ih, ctE_len, blkL_len]; omega), ih]
theorem ct_look {c : CfgD} (hc : c.Bd) {r : Int} {k : Nat} (h : (k : Int) < c.b) (hr : ((9 * (k + 1) : Nat) : Int) ≤ r) : look (ents (ctP c r (k + 1))) (c.at_ 11 (k : Int) 0) = some 1 := by
  rw [ct_ents hc (k + 1) (by omega) hr]
  show look (ctE c k ++ blkL c k) _ = _
  rw [look_app, ct_fresh hc h (e := (c.at_ 11 (k : Int) 0, 1)) (by simp [blkL])]
  simp [blkL, look]
theorem ct_take {c : CfgD} {r nt : Int} {k : Nat} (h0 : nt ≠ 0) (h : (k : Int) < c.b) : takeD c r nt (ctP c r k) (k : Int) = (nt - 1, ctP c r (k + 1)) := by
  unfold takeD
  rw [if_neg (by rintro (h1 | h1); exact h0 h1; exact h1 ⟨by omega, h⟩)]
  rw [show ctP c r (k + 1) = putsS r (ctP c r k) (blkL c k) from rfl]
  unfold blkL putAt
  generalize noughts c (k : Int) 8 = N
  generalize ctP c r k = P
  rfl
end Go.Proofs.Ythjkodjpopcjaaa
