/- WsetMarks' mathematics: three rows put one after another. -/
import Derived.Test.YtebffkoonbkhnaaWsBa
import Derived.Test.YtebffkoonbkhnaaWsZ
namespace Go.Proofs.Ytebffkoonbkhnaa
open Go.RowKit Go.Maps

structure SlD where
  A : Option Addr
  n : Nat
  c : Nat
  l : List (Int × Int)
def OkS (w : World) (s : SlD) : Prop := s.l.length = s.n ∧ s.n ≤ 40 ∧ EntsAt w s.A s.l ∧ WfE s.l
def sumL : List SlD → List (Int × Int)
  | [] => []
  | s :: D => s.l ++ sumL D
theorem sumL_snoc : ∀ (D : List SlD) (s : SlD), sumL (D ++ [s]) = sumL D ++ s.l
  | [], s => by simp [sumL]
  | t :: D, s => by simp only [List.cons_append, sumL]; rw [sumL_snoc D s, List.append_assoc]
def PS (r : Int) (D : List SlD) (k : Nat) : List (Int × Int) := putsS r [] (sumL (D.take k))
def cntS (D : List SlD) (k : Nat) : Nat := (sumL (D.take k)).length
theorem putsS_append (r : Int) (ps a b : List (Int × Int)) : putsS r ps (a ++ b) = putsS r (putsS r ps a) b := by unfold putsS; rw [List.foldl_append]
theorem PS_next {r : Int} {D : List SlD} {k : Nat} {s : SlD} (h : D[k]? = some s) : PS r D (k + 1) = putsS r (PS r D k) s.l := by
  obtain ⟨hk, rfl⟩ := List.getElem?_eq_some_iff.1 h
  unfold PS
  rw [List.take_succ_eq_append_getElem hk, sumL_snoc, putsS_append]
theorem cntS_next {D : List SlD} {k : Nat} {s : SlD} (h : D[k]? = some s) : cntS D (k + 1) = cntS D k + s.l.length := by
  obtain ⟨hk, rfl⟩ := List.getElem?_eq_some_iff.1 h
  unfold cntS
  rw [List.take_succ_eq_append_getElem hk, sumL_snoc, List.length_append]
theorem PS_len (r : Int) (D : List SlD) (k : Nat) : (PS r D k).length ≤ cntS D k := by
  have := (putsS_len r (sumL (D.take k)) []).2
  unfold PS cntS
  simpa using this
theorem PS_back1 {r : Int} {D : List SlD} {k : Nat} {s : SlD} (h : D[k]? = some s) : (PS r D (k + 1)).take (PS r D k).length = PS r D k := by
  rw [PS_next h]; exact putsS_take r s.l (PS r D k)
theorem PS_mono {r : Int} {D : List SlD} {k : Nat} {s : SlD} (h : D[k]? = some s) : (PS r D k).length ≤ (PS r D (k + 1)).length := by
  rw [PS_next h]; exact (putsS_len r s.l (PS r D k)).1
theorem PS_back2 {r : Int} {D : List SlD} {k : Nat} {s t : SlD} (h : D[k]? = some s) (h' : D[k + 1]? = some t) : (PS r D (k + 2)).take (PS r D k).length = PS r D k := by
  have h1 := PS_back1 (r := r) h'
  have h2 := PS_back1 (r := r) h
  have h3 := PS_mono (r := r) h
  conv => rhs; rw [← h2, ← h1, List.take_take, Nat.min_eq_left h3]
theorem PS_wf {r : Int} {D : List SlD} (hw : ∀ s ∈ D, WfE s.l) (k : Nat) : Wf (PS r D k) := by
  refine Wf.putsS (fun _ h => by simp at h) ?_
  have : ∀ E : List SlD, (∀ s ∈ E, WfE s.l) → WfE (sumL E) := by
    intro E
    induction E with
    | nil => intro _ e he; simp [sumL] at he
    | cons s E ih =>
      intro hE e he
      rcases List.mem_append.1 (show e ∈ s.l ++ sumL E from he) with h | h
      · exact hE s (by simp) e h
      · exact ih (fun t ht => hE t (by simp [ht])) e h
  exact this _ (fun s hs => hw s (List.mem_of_mem_take hs))
/-- The marks of the first k rows. -/
def marksL (r : Int) (D : List SlD) (k : Nat) : List Value := (List.range k).map fun j => .int .i64 ((PS r D j).length : Nat)
theorem marksL_snoc (r : Int) (D : List SlD) (k : Nat) : marksL r D (k + 1) = marksL r D k ++ [.int .i64 ((PS r D k).length : Nat)] := by
  unfold marksL; rw [List.range_succ, List.map_append]; rfl
theorem marksL_length (r : Int) (D : List SlD) (k : Nat) : (marksL r D k).length = k := by unfold marksL; simp
theorem marksL_at (r : Int) (D : List SlD) {k j : Nat} (h : j < k) : (marksL r D k)[j]? = some (.int .i64 ((PS r D j).length : Nat)) := by
  unfold marksL; simp [h]
theorem marksL_one (r : Int) (D : List SlD) (k : Nat) : (marksL r D k).all Value.oneCell' = true := by
  unfold marksL; simp [Value.oneCell']
theorem cnt_le (D : List SlD) (k : Nat) (h : ∀ s ∈ D, s.l.length ≤ 40) : cntS D k ≤ 40 * k := by
  have : ∀ E : List SlD, (∀ s ∈ E, s.l.length ≤ 40) → (sumL E).length ≤ 40 * E.length := by
    intro E
    induction E with
    | nil => intro _; simp [sumL]
    | cons s E ih =>
      intro hE
      have h1 := hE s (by simp)
      have h2 := ih (fun t ht => hE t (by simp [ht]))
      simp only [sumL, List.length_append, List.length_cons]
      omega
  have h1 := this (D.take k) (fun s hs => h s (List.mem_of_mem_take hs))
  have h2 : (D.take k).length ≤ k := by rw [List.length_take]; omega
  unfold cntS
  omega
theorem infoInt : (Try.prog.info? 3).map (fun i => (i.zero, i.size, i.bytes)) = some (some (.int .i64 0), 1, 8) := by kernel_rfl
def GM (gl : Nat) (mv : Value) (z : Nat) : Prop := z = gl ∨ mv.ownBlock = some z
def RM (gl : Nat) (cs : Array Value) (r : Int) (D : List SlD) (k : Nat) (mv : Value) (W : World) : Prop := Blk W gl 125 cs ∧ W.ownsRow 0 3 1 mv k (marksL r D k)
theorem RM.stays {gl : Nat} {cs : Array Value} {r : Int} {D : List SlD} {k : Nat} {mv : Value} (a c : World) (h : RM gl cs r D k mv a) (hk : Kept (fun z => ¬ GM gl mv z) a c) : RM gl cs r D k mv c :=
  ⟨hk.blk h.1 (fun hn => hn (.inl rfl)), hk.own h.2 (fun z e hn => hn (.inr e))⟩
/-- One more mark is set down. -/
theorem mark_more {w W w1 : World} {gl b1 b2 : Nat} {cs : Array Value} {r : Int} {D : List SlD} {k n m : Nat} {mv mv1 : Value} {ps qs : List (Int × Int)} {o : Obj}
    (h : SZ (GM gl mv) (RM gl cs r D k mv) w W b1 b2 r ps qs n m) (hw : ∀ z, mv.ownBlock = some z → w.heap.size ≤ z)
    (hown : w1.ownsRow 0 3 1 mv1 (k + 1) (marksL r D k ++ [.int .i64 ((PS r D k).length : Nat)])) (hg : (W.alloc o).grownBy w1 mv.ownBlock) (hat : mv1.ownBlock = mv.ownBlock ∨ mv1.ownBlock = some (W.alloc o).heap.size) :
    SZ (GM gl mv1) (RM gl cs r D (k + 1) mv1) w w1 b1 b2 r ps qs n m ∧ (∀ z, mv1.ownBlock = some z → w.heap.size ≤ z) := by
  have hk1 : Kept (fun z => some z = mv.ownBlock) W w1 := ((Kept.refl _ W).alloc o).trans (Kept.grown hg)
  have hsz : (W.alloc o).heap.size = W.heap.size + 1 := by simp
  have hgl : ∀ z, mv.ownBlock = some z → z ≠ gl := fun z e hz => own_blk_ne h.holds.2 h.holds.1 (by decide) (by rw [← hz]; exact e.symm)
  have hk0 : Kept (fun _ => False) w w1 := h.kept.trans' hk1 (fun z hz e => by have := hw z e.symm; omega)
  have hlow : ∀ z, GM gl mv1 z → z < w1.heap.size := by
    rintro z (rfl | e)
    · exact Nat.lt_of_lt_of_le (h.low z (.inl rfl)) hk1.size
    · exact (hown.lt z e).2
  have hnew : ∀ z, mv1.ownBlock = some z → mv.ownBlock = some z ∨ W.heap.size ≤ z := by
    intro z e
    rcases hat with h' | h'
    · exact .inl (by rw [← h']; exact e)
    · rw [h'] at e
      injection e with e
      exact .inr (by omega)
  refine ⟨h.regroup hk1 (fun z _ e => .inr e.symm) ?_ hlow hk0 ⟨hk1.blk h.holds.1 (fun e => hgl gl e.symm rfl), by rw [marksL_snoc]; exact hown⟩ RM.stays, ?_⟩
  · rintro z (rfl | e)
    · exact .inl (.inl rfl)
    · rcases hnew z e with e | e
      · exact .inl (.inr e)
      · exact .inr e
  · intro z e
    rcases hnew z e with e | e
    · exact hw z e
    · exact Nat.le_trans h.kept.size e
section
variable {G : Nat → Prop} {R : World → Prop} {w0 w : World} {x y : Nat} {room : Int} {ps qs : List (Int × Int)} {n m : Nat}
/-- A new block beside the sets is watched over. -/
theorem SZ.add (h : SZ G R w0 w x y room ps qs n m) (cs : Array Value) (t : TypeId) : SZ (fun z => G z ∨ z = w.heap.size) (fun W => R W ∧ Blk W w.heap.size t cs) w0 (w.alloc (.cells cs t)) x y room ps qs n m := by
  have k : Kept (fun _ => False) w (w.alloc (.cells cs t)) := (Kept.refl _ _).alloc _
  have hsz : (w.alloc (.cells cs t)).heap.size = w.heap.size + 1 := by simp
  refine h.regroup k (fun _ _ h => h.elim) ?_ ?_ (h.kept.trans k) ⟨h.stays _ _ h.holds (k.mono (fun _ _ h => h.elim)), Blk.new _ _ _⟩ (fun a c hr hk => ⟨h.stays a c hr.1 (hk.mono (fun _ _ hn g => hn (.inl g))), hk.blk hr.2 (fun hn => hn (.inr rfl))⟩)
  · rintro z (g | rfl)
    · exact .inl g
    · exact .inr (Nat.le_refl _)
  · rintro z (g | rfl)
    · have := h.low z g; omega
    · omega
theorem SZ.less {ge : Nat} {t : TypeId} {cs : Array Value} {w' : World} (h0 : SZ G R w0 w x y room ps qs n m) {ps' qs' : List (Int × Int)} {n' m' : Nat} (h : SZ (fun z => G z ∨ z = ge) (fun W => R W ∧ Blk W ge t cs) w0 w' x y room ps' qs' n' m') : SZ G R w0 w' x y room ps' qs' n' m' :=
  h.regroup (Kept.refl (fun _ => False) _) (fun _ _ h => h.elim) (fun z g => .inl (.inl g)) (fun z g => h.low z (.inl g)) h.kept h.holds.1 h0.stays
end
end Go.Proofs.Ytebffkoonbkhnaa
