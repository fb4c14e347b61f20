/- Law 10's cells and read. -/
import Derived.Test.YthjkodjpopcjaaaPoH
import Derived.Test.YthjkodjpopcjaaaVwCp
namespace Go.Proofs.Ythjkodjpopcjaaa
open Go.RowKit Go.Maps
attribute [local go_sem ↓] loadMap_eq

def outL (l : List OutD) : List Value := l.flatMap OutD.cells
theorem outL_len (l : List OutD) : (outL l).length = l.length * 3 := by
  induction l with
  | nil => rfl
  | cons a l ih => simp [outL, OutD.cells] at ih ⊢; omega
theorem outL_snoc (l : List OutD) (o : OutD) : outL (l ++ [o]) = outL l ++ [.int .u64 o.val, .int .u64 o.seq, .bool o.ok] := by simp [outL, OutD.cells]
theorem outL_at : ∀ (l : List OutD) (k : Nat) (o : OutD), l[k]? = some o → ∀ (j : Nat) (u : Value), o.cells[j]? = some u → (outL l)[k * 3 + j]? = some u
  | a :: l, 0, o, h, j, u, hj => by
    simp at h; subst h
    have hl : j < 3 := by have := (List.getElem?_eq_some_iff.1 hj).1; simpa [OutD.cells] using this
    rw [Nat.zero_mul, Nat.zero_add]
    show (a.cells ++ outL l)[j]? = some u
    rw [List.getElem?_append_left (by simpa [OutD.cells] using hl)]
    exact hj
  | a :: l, k + 1, o, h, j, u, hj => by
    simp at h
    show (a.cells ++ outL l)[(k + 1) * 3 + j]? = some u
    rw [List.getElem?_append_right (by simp [OutD.cells]; omega)]
    have e : (k + 1) * 3 + j - a.cells.length = k * 3 + j := by simp [OutD.cells]; omega
    rw [e]
    exact outL_at l k o h j u hj
/-- A reply that tells a number. -/
def outO (v : Int) : OutD := ⟨v, 5, true⟩
/-- A row that is owned is read as a list. -/
theorem own_SlAt {w : World} {t : TypeId} {size n base : Nat} {v : Value} {xs : List Value} {l : List (List Value)} (h : w.ownsRow base t size v n xs) (hl : l.length = n)
    (hx : ∀ (k : Nat) (cs : List Value), l[k]? = some cs → ∀ (j : Nat) (u : Value), cs[j]? = some u → k * size + j < n * size ∧ xs[k * size + j]? = some u) :
    ∃ A c, v = .slice A n c ∧ SlAt w A size l := by
  rcases Nat.eq_zero_or_pos n with h0 | h0
  · obtain ⟨A, c, rfl⟩ := own_form h
    exact ⟨A, c, rfl, fun hp => by omega⟩
  · obtain ⟨g, c, rfl, _⟩ := own_some h h0
    refine ⟨_, c, rfl, fun _ => ⟨g, 0, rfl, (h.lt g rfl).2, fun k cs hk j u hj => ?_⟩⟩
    obtain ⟨h1, h2⟩ := hx k cs hk j u hj
    rw [Nat.zero_add]
    exact (h.cellAt (k * size + j) h1).trans h2
theorem own_outs {w : World} {base : Nat} {v : Value} {l : List OutD} (h : w.ownsRow base 55 3 v l.length (outL l)) : ∃ A c, v = .slice A l.length c ∧ SlAt w A 3 (l.map OutD.cells) :=
  own_SlAt h (by simp) (fun k cs hk j u hj => by
    rw [List.getElem?_map] at hk
    cases hs : l[k]? with
    | none => rw [hs] at hk; cases hk
    | some o =>
      rw [hs] at hk
      cases hk
      have hj2 : j < 3 := by have := (List.getElem?_eq_some_iff.1 hj).1; simpa [OutD.cells] using this
      have hk2 : k < l.length := (List.getElem?_eq_some_iff.1 hs).1
      exact ⟨by omega, outL_at l k o hs j u hj⟩)
theorem own_u64s {w : World} {base : Nat} {v : Value} {l : List Int} (h : w.ownsRow base 22 1 v l.length (u64L l)) : ∃ A c, v = .slice A l.length c ∧ SlAt w A 1 (l.map fun x => [.int .u64 x]) :=
  own_SlAt h (by simp) (fun k cs hk j u hj => by
    rw [List.getElem?_map] at hk
    cases hs : l[k]? with
    | none => rw [hs] at hk; cases hk
    | some o =>
      rw [hs] at hk
      cases hk
      have hk2 : k < l.length := (List.getElem?_eq_some_iff.1 hs).1
      have hj2 : j < 1 := by have := (List.getElem?_eq_some_iff.1 hj).1; simpa using this
      obtain rfl : j = 0 := by omega
      refine ⟨by omega, ?_⟩
      rw [Nat.mul_one, Nat.add_zero, u64L, List.getElem?_map, hs]
      exact hj)
theorem infoOut : (Try.prog.info? 55).map (fun i => (i.zero, i.size, i.bytes)) = some (some (.agg #[.int .u64 0, .int .u64 0, .bool false]), 3, 24) := by kernel_rfl
/-- A row that was just made. -/
def MadeO (w : World) (l : List OutD) (e : Ending) (w' : World) : Prop :=
  ∃ v, e = .returned v ∧ w'.ownsRow 0 55 3 v l.length (outL l) ∧ (∀ x, v.ownBlock = some x → w.heap.size ≤ x) ∧ Kept (fun _ => False) w w'
def CeRel (w : World) (vs : List Int) (v i : Value) (wr : World) : Prop :=
  ∃ k : Nat, k ≤ vs.length ∧ i = .int .i64 k ∧ wr.ownsRow 0 55 3 v k (outL ((vs.take k).map outO)) ∧ (∀ x, v.ownBlock = some x → w.heap.size ≤ x) ∧ Kept (fun _ => False) w wr
theorem ce_step {w wr W w1 : World} {k : Nat} {vs : List Int} {v v1 : Value} {a : Int} (hv : ∀ x, v.ownBlock = some x → w.heap.size ≤ x) (hK : Kept (fun _ => False) w wr) (h1 : Kept (fun _ => False) wr W) (he : vs[k]? = some a)
    (hown : w1.ownsRow 0 55 3 v1 (k + 1) (outL ((vs.take k).map outO) ++ [.int .u64 a, .int .u64 5, .bool true])) (hg : W.grownBy w1 v.ownBlock) (hat : v1.ownBlock = v.ownBlock ∨ v1.ownBlock = some W.heap.size) :
    w1.ownsRow 0 55 3 v1 (k + 1) (outL ((vs.take (k + 1)).map outO)) ∧ (∀ x, v1.ownBlock = some x → w.heap.size ≤ x) ∧ Kept (fun _ => False) w w1 := by
  obtain ⟨hk, rfl⟩ := List.getElem?_eq_some_iff.1 he
  refine ⟨by rw [List.take_succ_eq_append_getElem hk, List.map_append, List.map_singleton, outL_snoc]; exact hown, ?_, ?_⟩
  · intro x hx
    rcases hat with h' | h' <;> rw [h'] at hx
    · exact hv x hx
    · injection hx with hx
      have := hK.size
      have := h1.size
      omega
  · have := hK.trans h1
    exact ⟨hg.os.trans this.os, hg.tape.trans this.tape, hg.output.trans this.output, Nat.le_trans this.size hg.size, fun k' hk' _ => (hg.block k' (Nat.lt_of_lt_of_le hk' this.size) (fun e => by have := hv k' e.symm; omega)).trans (this.block k' hk' (fun h => h))⟩
set_option maxRecDepth 100000 in
set_option maxHeartbeats 4000000 in
theorem cells_calls {w : World} {A : Option Addr} {n cp : Nat} {vs : List Int} (hv : vs.length = n) (hn : n ≤ 1000) (hs : SlAt w A 1 (vs.map fun x => [.int .u64 x])) :
    Calls Try.prog 47 #[.slice A n cp] w (MadeO w (vs.map outO)) := by
  obtain ⟨i0, hi0, hz0, hz1, hz2⟩ := info_parts' infoOut
  have HS := Lib.hid hs
  have HV := Lib.hid hv
  clear hs hv
  have HE0 : Hid ((w.alloc (.cells #[] 55)).ownsRow 0 55 3 (.slice (some ⟨w.heap.size, 0, none⟩) 0 0) 0 []) := Lib.hid (own_base (own_empty w 55 3) (base' := 0) (fun _ _ => Nat.zero_le _))
  go_enter Try.func47, Try.ntmps47
  go_wp2_with fail
  go_loopw [3, 9] (fun v i wr => CeRel w vs v i wr) (fun _ i _ => n - (intOf i).toNat)
  case atStart =>
    refine ⟨0, Nat.zero_le _, rfl, by simpa [outL] using HE0.out, ?_, (Kept.refl _ _).alloc _⟩
    intro x hx
    simp [Value.ownBlock] at hx
    omega
  case round =>
    obtain ⟨k, hk, rfl, hvo, hvx, hKr⟩ := hrel
    rw [HV.out] at hk
    rename_i v wr
    obtain ⟨VA, VC, rfl⟩ := own_form hvo
    by_cases hlt : k < n
    · obtain ⟨a, ha⟩ : ∃ a, vs[k]? = some a := ⟨_, List.getElem?_eq_getElem (by rw [HV.out]; exact hlt)⟩
      obtain ⟨gv, gp, eD, hgv, hc⟩ := (HS.out.kept hKr) (by rw [List.length_map, HV.out]; omega)
      subst eD
      have c0 : wr.cell? ⟨gv, gp + k * 1, none⟩ = some (.int .u64 a) := hc k [.int .u64 a] (by rw [List.getElem?_map, ha]; rfl) 0 _ rfl
      rw [Nat.mul_one] at c0
      have HVO := Lib.hid hvo
      have HVX := Lib.hid hvx
      have HKR := Lib.hid hKr
      have HA := Lib.hid ha
      have hd : decide ((k : Int) < n) = true := decide_eq_true (by omega)
      clear hvo hvx hKr ha hc hgv
      go_wp2_with (at_builtin; refine wpList_append_own_at _ rfl (.tmp 13) (.tmp 17) 26 rfl 0 55 i0 _ 3 24 Try.underlying26 hi0 hz0 hz1 hz2 rfl (by decide) (.slice VA k VC) k (outL ((vs.take k).map outO)) rfl (HVO.out.alloc _) ⟨wr.heap.size, 0, none⟩ 1 1 [.int .u64 a, .int .u64 5, .bool true] rfl rfl (news_at _ #[.int .u64 a, .int .u64 5, .bool true] _ _ rfl) (by simp [Value.oneCell']) (by unfold maxLen; omega) (by omega) (Nat.zero_le _) ?_; intro v1 w3 hown1 hgrow _ hat; obtain ⟨VA1, VC1, rfl⟩ := own_form hown1)
      obtain ⟨s1, s2, s3⟩ := ce_step (W := wr.alloc _) HVX.out HKR.out ((Kept.refl _ _).alloc _) HA.out hown1 hgrow hat
      first | exact ⟨⟨k + 1, by rw [HV.out]; omega, by simp, s1, s2, s3⟩, by simp [intOf]; omega⟩ | (go_roundw; (case rel => exact ⟨k + 1, by rw [HV.out]; omega, by simp, s1, s2, s3⟩); (case measure => simp [intOf]; omega))
    · obtain rfl : k = n := by omega
      have HVO := Lib.hid hvo
      have HVX := Lib.hid hvx
      have HKR := Lib.hid hKr
      clear hvo hvx hKr
      go_wp2_with fail
      go_ret
      have hvo := HVO.out
      rw [List.take_of_length_le (by rw [HV.out]; exact Nat.le_refl _)] at hvo
      exact ⟨_, rfl, by rw [List.length_map, HV.out]; exact hvo, HVX.out, HKR.out⟩
end Go.Proofs.Ythjkodjpopcjaaa
