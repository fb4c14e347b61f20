/- WsetKeeps' mathematics: a set, a map and a row beside it. -/
import Derived.Test.YtebffkoonbkhnaaWsMm
import Derived.Test.YtebffkoonbkhnaaWsN
namespace Go.Proofs.Ytebffkoonbkhnaa
open Go.RowKit Go.Maps

section
variable {G G' T : Nat → Prop} {R R' : World → Prop} {w0 w w' : World} {b : Nat} {room : Int} {ps : List (Int × Int)} {n : Nat}
theorem SX.regroup (h : SX G R w0 w b room ps n) (k : Kept T w w') (hT : ∀ z, z < w.heap.size → T z → G z) (hG : ∀ z, G' z → G z ∨ w.heap.size ≤ z) (hlow : ∀ z, G' z → z < w'.heap.size) (hk0 : Kept (fun _ => False) w0 w') (hr : R' w')
    (hs : ∀ a c, R' a → Kept (fun x => ¬ G' x) a c → R' c) : SX G' R' w0 w' b room ps n := by
  have h1 := (h.set.mono (G := fun x => (w0.heap.size ≤ x ∧ ¬ G x) ∧ x < w.heap.size) (fun x hx hf => ⟨hf, hx⟩)).kept k (fun x hx ht => hx.1.2 (hT x hx.2 ht))
  exact ⟨h1.mono (fun x _ hx => ⟨hx.1.1, fun g => (hG x g).elim hx.1.2 (fun hl => by have := hx.2; omega)⟩), hk0, hlow, hr, hs⟩
end

def TM : MTy := ⟨.i64, .u64, 3, 22, 126⟩
theorem TM.fine : TM.Fine := ⟨Try.underlying3, Try.underlying22, Try.underlying126, fun _ => by kernel_rfl⟩
def keyL (ks : List Int) : List Value := ks.map fun a => .int .i64 a
def GK (mb : Nat) (ov : Value) (L : List (Nat × Array Value)) (z : Nat) : Prop := z = mb ∨ ov.ownBlock = some z ∨ ∃ x ∈ L, x.1 = z
def RK (mb : Nat) (ov : Value) (f : Int → Option Int) (m : Nat) (ks : List Int) (L : List (Nat × Array Value)) (W : World) : Prop :=
  NMap TM W mb m f ∧ W.ownsRow 0 3 1 ov ks.length (keyL ks) ∧ ∀ x ∈ L, Blk W x.1 128 x.2
theorem RK.stays {mb : Nat} {ov : Value} {f : Int → Option Int} {m : Nat} {ks : List Int} {L : List (Nat × Array Value)} (a c : World) (h : RK mb ov f m ks L a) (hk : Kept (fun z => ¬ GK mb ov L z) a c) : RK mb ov f m ks L c :=
  ⟨h.1.kept hk (fun hn => hn (.inl rfl)), hk.own h.2.1 (fun z e hn => hn (.inr (.inl e))), fun x hx => hk.blk (h.2.2 x hx) (fun hn => hn (.inr (.inr ⟨x, hx, rfl⟩)))⟩
/-- A set, and beside it a map that tells what f does, the row of ks, and entries of the law's own. -/
structure KS (w0 w : World) (b : Nat) (r : Int) (ps : List (Int × Int)) (n mb : Nat) (ov : Value) (f : Int → Option Int) (m : Nat) (ks : List Int) (L : List (Nat × Array Value)) : Prop where
  sx : SX (GK mb ov L) (RK mb ov f m ks L) w0 w b r ps n
  row : ∀ z, ov.ownBlock = some z → w0.heap.size ≤ z
  old : w0.heap.size ≤ mb
section
variable {w0 w W w1 : World} {b n mb m : Nat} {r : Int} {ps : List (Int × Int)} {ov ov1 : Value} {f : Int → Option Int} {ks : List Int} {L : List (Nat × Array Value)}
theorem KS.keep (h : KS w0 w b r ps n mb ov f m ks L) (k : Kept (fun _ => False) w w1) : KS w0 w1 b r ps n mb ov f m ks L := ⟨h.sx.keep k, h.row, h.old⟩
theorem KS.add (h : KS w0 w b r ps n mb ov f m ks L) (cs : Array Value) : KS w0 (w.alloc (.cells cs 128)) b r ps n mb ov f m ks ((w.heap.size, cs) :: L) := by
  have k : Kept (fun _ => False) w (w.alloc (.cells cs 128)) := (Kept.refl _ _).alloc _
  have hs := (h.sx.keep k).holds
  refine ⟨h.sx.regroup k (fun _ _ h => h.elim) ?_ ?_ (h.sx.kept.trans k) ⟨hs.1, hs.2.1, ?_⟩ RK.stays, h.row, h.old⟩
  · rintro z (e | e | ⟨x, hx, e⟩)
    · exact .inl (.inl e)
    · exact .inl (.inr (.inl e))
    · rcases List.mem_cons.1 hx with rfl | hx
      · exact .inr (by have e' : w.heap.size = z := e; omega)
      · exact .inl (.inr (.inr ⟨x, hx, e⟩))
  · have hsz : (w.alloc (.cells cs 128)).heap.size = w.heap.size + 1 := by simp
    rintro z (e | e | ⟨x, hx, e⟩)
    · exact Nat.lt_of_lt_of_le (h.sx.low z (.inl e)) k.size
    · exact Nat.lt_of_lt_of_le (h.sx.low z (.inr (.inl e))) k.size
    · rcases List.mem_cons.1 hx with rfl | hx
      · have e' : w.heap.size = z := e; omega
      · exact Nat.lt_of_lt_of_le (h.sx.low z (.inr (.inr ⟨x, hx, e⟩))) k.size
  · intro x hx
    rcases List.mem_cons.1 hx with rfl | hx
    · exact Blk.new _ _ _
    · exact hs.2.2 x hx
theorem KS.less (h : KS w0 w b r ps n mb ov f m ks L) : KS w0 w b r ps n mb ov f m ks [] :=
  ⟨h.sx.weak (fun z g => g.elim .inl (fun g => g.elim (fun e => .inr (.inl e)) (fun ⟨_, hx, _⟩ => absurd hx (by simp)))) ⟨h.sx.holds.1, h.sx.holds.2.1, fun _ hx => absurd hx (by simp)⟩ RK.stays, h.row, h.old⟩
theorem KS.put (h : KS w0 w b r ps n mb ov f m ks L) (a v : Int) (ha : I64 a) (hp : ps.length ≤ 60000) (hn : n ≤ 60000) (hr : (ps.length : Int) < r) :
    Calls Try.prog 60 #[.pointer (some ⟨b, 0, none⟩), .int .i64 a, .int .u64 v] w fun e w' => e = .returned (.int .i64 0) ∧ KS w0 w' b r (ps ++ [(a, v)]) (n + 1) mb ov f m ks L := by
  have hf : fits r ps a = true := by
    have := ents_len ps
    unfold fits
    rw [decide_eq_true (show ((ents ps).length : Int) < r by omega), Bool.or_true]
  refine (h.sx.put a v ha hp hn).mono fun e w' ⟨h1, h2⟩ => ⟨?_, ?_, h.row, h.old⟩
  · rw [h1]; unfold putErr; rw [if_pos hf]
  · unfold putS at h2; rw [if_pos hf] at h2; exact h2
/-- The row grows. -/
theorem KS.app (h : KS w0 W b r ps n mb ov f m ks L) {o : Obj} {a : Int}
    (hown : w1.ownsRow 0 3 1 ov1 (ks.length + 1) (keyL ks ++ [.int .i64 a])) (hg : (W.alloc o).grownBy w1 ov.ownBlock) (hat : ov1.ownBlock = ov.ownBlock ∨ ov1.ownBlock = some (W.alloc o).heap.size) :
    KS w0 w1 b r ps n mb ov1 f m (ks ++ [a]) L := by
  have hk1 : Kept (fun z => some z = ov.ownBlock) W w1 := ((Kept.refl _ W).alloc o).trans (Kept.grown hg)
  have hsz : (W.alloc o).heap.size = W.heap.size + 1 := by simp
  have hgl : some mb ≠ ov.ownBlock := h.sx.holds.1.ne_own h.sx.holds.2.1
  have hk0 : Kept (fun _ => False) w0 w1 := h.sx.kept.trans' hk1 (fun z hz e => by have := h.row z e.symm; omega)
  have hlow : ∀ z, GK mb ov1 L z → z < w1.heap.size := by
    rintro z (rfl | e | e)
    · exact Nat.lt_of_lt_of_le (h.sx.low _ (.inl rfl)) hk1.size
    · exact (hown.lt z e).2
    · exact Nat.lt_of_lt_of_le (h.sx.low _ (.inr (.inr e))) hk1.size
  have hnew : ∀ z, ov1.ownBlock = some z → ov.ownBlock = some z ∨ W.heap.size ≤ z := by
    intro z e
    rcases hat with h' | h'
    · exact .inl (by rw [← h']; exact e)
    · rw [h'] at e
      injection e with e
      exact .inr (by omega)
  have hrow : w1.ownsRow 0 3 1 ov1 (ks ++ [a]).length (keyL (ks ++ [a])) := by
    unfold keyL
    rw [List.length_append, List.map_append]
    exact hown
  refine ⟨h.sx.regroup hk1 (fun z _ e => .inr (.inl e.symm)) ?_ hlow hk0 ⟨h.sx.holds.1.kept hk1 hgl, hrow, fun x hx => hk1.blk (h.sx.holds.2.2 x hx) (own_blk_ne h.sx.holds.2.1 (h.sx.holds.2.2 x hx) (by decide))⟩ RK.stays, ?_, h.old⟩
  · rintro z (rfl | e | e)
    · exact .inl (.inl rfl)
    · rcases hnew z e with e | e
      · exact .inl (.inr (.inl e))
      · exact .inr e
    · exact .inl (.inr (.inr e))
  · intro z e
    rcases hnew z e with e | e
    · exact h.row z e
    · exact Nat.le_trans h.sx.kept.size e
theorem wfU {v : Int} (h0 : 0 ≤ v) (h1 : v ≤ 18446744073709551615) : (Lit.int .u64 v).wf = true := WalkArith.wf_u64 ⟨h0, h1⟩
/-- The map turns. -/
theorem KS.upd (h : KS w0 w b r ps n mb ov f m ks L) (hm : m < maxLen) {a v : Int} (ha : I64 a) (hv : 0 ≤ v ∧ v ≤ 18446744073709551615) :
    ∃ w', (Instr.mapUpdate 126 (.map (some mb)) (.int .i64 a) (.int .u64 v)).run Try.prog w = .ok () w' ∧ KS w0 w' b r ps n mb ov (Go.Proofs.Ytebffkoonbkhnaa.upd f a v) (m + 1) ks L ∧ Kept (fun z => z = mb) w w' := by
  obtain ⟨w', h1, h2, h3⟩ := h.sx.holds.1.set TM.fine hm (a := a) (v := v) (I64.wf ha) (wfU hv.1 hv.2)
  refine ⟨w', h1, ⟨h.sx.regroup h3 (fun z _ e => .inl e) (fun z g => .inl g) (fun z g => Nat.lt_of_lt_of_le (h.sx.low z g) h3.size) (h.sx.kept.trans' h3 (fun z hz e => by have := h.old; omega)) ⟨h2, h3.own h.sx.holds.2.1 ?_, fun x hx => h3.blk (h.sx.holds.2.2 x hx) (fun e => h.sx.holds.1.ne (h.sx.holds.2.2 x hx) e.symm)⟩ RK.stays, h.row, h.old⟩, h3⟩
  intro z e hz
  exact h.sx.holds.1.ne_own h.sx.holds.2.1 (by rw [e, hz])
theorem KS.look (h : KS w0 w b r ps n mb ov f m ks L) {a : Int} (ha : I64 a) (W : World) (hW : W.heap[mb]? = w.heap[mb]?) :
    (Instr.lookup 126 (.map (some mb)) (.int .i64 a) true).run Try.prog W = .ok (.tuple #[.int .u64 ((f a).getD 0), .bool (f a).isSome]) W ∧ (Instr.lookup 126 (.map (some mb)) (.int .i64 a) false).run Try.prog W = .ok (.int .u64 ((f a).getD 0)) W :=
  h.sx.holds.1.look TM.fine (a := a) (I64.wf ha) W hW
theorem KS.init {w2 : World} (h : SX (fun _ => False) (fun _ => True) w0 w2 b r ps n) :
    KS w0 ((w2.alloc (.map #[] 0)).alloc (.cells #[] 3)) b r ps n w2.heap.size (.slice (some ⟨w2.heap.size + 1, 0, none⟩) 0 0) (fun _ => none) 0 [] [] := by
  have k : Kept (fun _ => False) w2 ((w2.alloc (.map #[] 0)).alloc (.cells #[] 3)) := ((Kept.refl _ _).alloc _).alloc _
  have hsz : ((w2.alloc (.map #[] 0)).alloc (.cells #[] 3)).heap.size = w2.heap.size + 2 := by simp
  have hrow := own_base (own_empty (w2.alloc (.map #[] 0)) 3 1) (base' := 0) (fun _ _ => Nat.zero_le _)
  have hs1 : (w2.alloc (.map #[] 0)).heap.size = w2.heap.size + 1 := by simp
  rw [hs1] at hrow
  refine ⟨h.regroup k (fun _ _ h => h.elim) ?_ ?_ (h.kept.trans k) ⟨(NMap.made TM w2).kept ((Kept.refl (fun _ => False) _).alloc _) (fun h => h), hrow, fun _ hx => absurd hx (by simp)⟩ RK.stays, ?_, h.kept.size⟩
  · rintro z (rfl | e | ⟨x, hx, _⟩)
    · exact .inr (Nat.le_refl _)
    · simp [Value.ownBlock] at e; exact .inr (by omega)
    · exact absurd hx (by simp)
  · rintro z (rfl | e | ⟨x, hx, _⟩)
    · omega
    · simp [Value.ownBlock] at e; omega
    · exact absurd hx (by simp)
  · intro z e
    simp [Value.ownBlock] at e
    have := h.kept.size
    omega
end
theorem upd_look (ps : List (Int × Int)) (a v : Int) : upd (look (ents ps)) a v = look (ents (ps ++ [(a, v)])) := by
  funext x
  rw [look_put]
  rfl
theorem keys_same {ps : List (Int × Int)} {a v : Int} (h : (look (ents ps) a).isSome = true) : keys (ps ++ [(a, v)]) = keys ps := by rw [keys_put, if_pos h]
theorem keys_more {ps : List (Int × Int)} {a v : Int} (h : (look (ents ps) a).isSome = false) : keys (ps ++ [(a, v)]) = keys ps ++ [a] := by rw [keys_put, if_neg (by simp [h])]
end Go.Proofs.Ytebffkoonbkhnaa
