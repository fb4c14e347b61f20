/- WsetPlays: a set, the document's row of what was put, and blocks beside both. -/
import Derived.Test.YtebffkoonbkhnaaWsRc
import Derived.Test.YtebffkoonbkhnaaWsKe
namespace Go.Proofs.Ytebffkoonbkhnaa
open Go.RowKit Go.Maps

theorem rPut_calls {w : World} {pv : Value} {n : Nat} {ps : List (Int × Int)} (h : RowP w pv n ps) (hn : n ≤ 50000) (room a v : Int) :
    Calls Try.prog 59 #[.agg #[.int .i64 room, pv], .int .i64 a, .int .u64 v] w (PutP pv w room ps a v) := by
  cases hf : fits room ps a with
  | true => exact rPut_in h hn room a v hf
  | false => exact rPut_full h (by omega) room a v hf

def GP (pv : Value) (L : List (Nat × TypeId × Array Value)) (z : Nat) : Prop := pv.ownBlock = some z ∨ ∃ x ∈ L, x.1 = z
def RP (pv : Value) (np : Nat) (qs : List (Int × Int)) (L : List (Nat × TypeId × Array Value)) (W : World) : Prop := RowP W pv np qs ∧ ∀ x ∈ L, Blk W x.1 x.2.1 x.2.2
theorem RP.stays {pv : Value} {np : Nat} {qs : List (Int × Int)} {L : List (Nat × TypeId × Array Value)} (a c : World) (h : RP pv np qs L a) (hk : Kept (fun z => ¬ GP pv L z) a c) : RP pv np qs L c :=
  ⟨⟨h.1.1, hk.own h.1.2 (fun z e hn => hn (.inl e))⟩, fun x hx => hk.blk (h.2 x hx) (fun hn => hn (.inr ⟨x, hx, rfl⟩))⟩
/-- A set of ps; the row pv of qs; the blocks of L. -/
def PX (w0 w : World) (b : Nat) (r : Int) (ps : List (Int × Int)) (n : Nat) (pv : Value) (np : Nat) (qs : List (Int × Int)) (L : List (Nat × TypeId × Array Value)) : Prop := SX (GP pv L) (RP pv np qs L) w0 w b r ps n
section
variable {w0 w w1 : World} {b n np np1 g : Nat} {r : Int} {ps qs qs1 : List (Int × Int)} {pv pv1 : Value} {L M : List (Nat × TypeId × Array Value)} {t : TypeId} {cs : Array Value}
theorem PX.keep (h : PX w0 w b r ps n pv np qs L) (k : Kept (fun _ => False) w w1) : PX w0 w1 b r ps n pv np qs L := SX.keep h k
theorem PX.rowP (h : PX w0 w b r ps n pv np qs L) : RowP w pv np qs := h.holds.1
theorem PX.blk (h : PX w0 w b r ps n pv np qs L) {x : Nat × TypeId × Array Value} (hx : x ∈ L) : Blk w x.1 x.2.1 x.2.2 := h.holds.2 x hx
theorem PX.sub (h : PX w0 w b r ps n pv np qs L) (hs : ∀ x ∈ M, x ∈ L) : PX w0 w b r ps n pv np qs M :=
  SX.weak h (fun _ g => g.elim .inl (fun ⟨x, hx, e⟩ => .inr ⟨x, hs x hx, e⟩)) ⟨h.holds.1, fun x hx => h.holds.2 x (hs x hx)⟩ RP.stays
theorem PX.more (h : PX w0 w b r ps n pv np qs L) (t : TypeId) (cs : Array Value) : PX w0 (w.alloc (.cells cs t)) b r ps n pv np qs ((w.heap.size, t, cs) :: L) := by
  have k : Kept (fun _ => False) w (w.alloc (.cells cs t)) := (Kept.refl _ _).alloc _
  have hs := (SX.keep h k).holds
  refine SX.regroup h k (fun _ _ h => h.elim) ?_ ?_ (h.kept.trans k) ⟨hs.1, ?_⟩ RP.stays
  · rintro z (e | ⟨x, hx, e⟩)
    · exact .inl (.inl e)
    · rcases List.mem_cons.1 hx with rfl | hx
      · exact .inr (by have e' : w.heap.size = z := e; omega)
      · exact .inl (.inr ⟨x, hx, e⟩)
  · have hsz : (w.alloc (.cells cs t)).heap.size = w.heap.size + 1 := by simp
    rintro z (e | ⟨x, hx, e⟩)
    · exact Nat.lt_of_lt_of_le (h.low z (.inl e)) k.size
    · rcases List.mem_cons.1 hx with rfl | hx
      · have e' : w.heap.size = z := e; omega
      · exact Nat.lt_of_lt_of_le (h.low z (.inr ⟨x, hx, e⟩)) k.size
  · intro x hx
    rcases List.mem_cons.1 hx with rfl | hx
    · exact Blk.new _ _ _
    · exact hs.2 x hx
/-- Another row in the old one's place. -/
theorem PX.row (h : PX w0 w b r ps n pv np qs L) (k : Kept (fun _ => False) w w1) (hr : RowP w1 pv1 np1 qs1) (hF : ∀ z, pv1.ownBlock = some z → pv.ownBlock = some z ∨ w.heap.size ≤ z) : PX w0 w1 b r ps n pv1 np1 qs1 L := by
  have hs := (SX.keep h k).holds
  refine SX.regroup h k (fun _ _ h => h.elim) ?_ ?_ (h.kept.trans k) ⟨hr, hs.2⟩ RP.stays
  · rintro z (e | e)
    · rcases hF z e with e | e
      · exact .inl (.inl e)
      · exact .inr e
    · exact .inl (.inr e)
  · rintro z (e | ⟨x, hx, e⟩)
    · exact (hr.2.lt z e).2
    · have := (hs.2 x hx).lt; rw [e] at this; exact this
/-- Two cells of the newest block are written. -/
theorem PX.two (h : PX w0 w b r ps n pv np qs ((g, t, cs) :: L)) (hg : w0.heap.size ≤ g) (ht : t ≠ 129) (hL : ∀ x ∈ L, x.1 ≠ g) (u0 u1 : Value) :
    PX w0 ((w.setCell ⟨g, 0, none⟩ u0).setCell ⟨g, 1, none⟩ u1) b r ps n pv np qs ((g, t, (cs.setIfInBounds 0 u0).setIfInBounds 1 u1) :: L) := by
  have k : Kept (fun z => z = g) w ((w.setCell ⟨g, 0, none⟩ u0).setCell ⟨g, 1, none⟩ u1) := ((Kept.refl _ w).setAt u0).setAt u1
  have hgb : Blk w g t cs := h.holds.2 _ (List.mem_cons_self ..)
  refine SX.regroup h k (fun z _ e => .inr ⟨_, List.mem_cons_self .., e.symm⟩) ?_ ?_ (h.kept.trans' k (fun z hz e => by omega)) ⟨⟨h.holds.1.1, k.own h.holds.1.2 (fun z e hz => own_blk_ne h.holds.1.2 hgb ht.symm (by rw [e, hz]))⟩, ?_⟩ RP.stays
  · rintro z (e | ⟨x, hx, e⟩)
    · exact .inl (.inl e)
    · rcases List.mem_cons.1 hx with rfl | hx
      · exact .inl (.inr ⟨_, List.mem_cons_self .., e⟩)
      · exact .inl (.inr ⟨x, List.mem_cons_of_mem _ hx, e⟩)
  · rintro z (e | ⟨x, hx, e⟩)
    · exact Nat.lt_of_lt_of_le (h.low z (.inl e)) k.size
    · rcases List.mem_cons.1 hx with rfl | hx
      · exact Nat.lt_of_lt_of_le (h.low z (.inr ⟨_, List.mem_cons_self .., e⟩)) k.size
      · exact Nat.lt_of_lt_of_le (h.low z (.inr ⟨x, List.mem_cons_of_mem _ hx, e⟩)) k.size
  · intro x hx
    rcases List.mem_cons.1 hx with rfl | hx
    · exact (hgb.set_ 0 u0).set_ 1 u1
    · exact k.blk (h.holds.2 x (List.mem_cons_of_mem _ hx)) (hL x hx)
theorem PX.put (h : PX w0 w b r ps n pv np qs L) (a v : Int) (ha : I64 a) (hp : ps.length ≤ 60000) (hn : n ≤ 60000) :
    Calls Try.prog 60 #[.pointer (some ⟨b, 0, none⟩), .int .i64 a, .int .u64 v] w fun e w' => e = .returned (.int .i64 (putErr r ps a)) ∧ PX w0 w' b r (putS r ps (a, v)) (n + 1) pv np qs L := SX.put h a v ha hp hn
theorem PX.back (h : PX w0 w b r ps n pv np qs L) (hw : Wf ps) (hp : ps.length ≤ 60000) (mark : Int) :
    Calls Try.prog 42 #[.pointer (some ⟨b, 0, none⟩), .int .i64 mark] w fun e w' => e = .returned (.bool (decide (0 ≤ mark ∧ mark ≤ ps.length))) ∧ PX w0 w' b r (if 0 ≤ mark ∧ mark ≤ ps.length then ps.take mark.toNat else ps) n pv np qs L := SX.back h hw hp mark
theorem PX.made (h : SX (fun _ => False) (fun _ => True) w0 w b r ps n) (cs : Array Value) (t : TypeId) : PX w0 (w.alloc (.cells cs t)) b r ps n (.slice none 0 0) 0 [] [(w.heap.size, t, cs)] := by
  have k : Kept (fun _ => False) w (w.alloc (.cells cs t)) := (Kept.refl _ _).alloc _
  refine SX.regroup h k (fun _ _ h => h.elim) ?_ ?_ (h.kept.trans k) ⟨RowP.nil _, fun x hx => ?_⟩ RP.stays
  · rintro z (e | ⟨x, hx, e⟩)
    · simp [Value.ownBlock] at e
    · rw [List.mem_singleton] at hx; subst hx; exact .inr (by have e' : w.heap.size = z := e; omega)
  · have hsz : (w.alloc (.cells cs t)).heap.size = w.heap.size + 1 := by simp
    rintro z (e | ⟨x, hx, e⟩)
    · simp [Value.ownBlock] at e
    · rw [List.mem_singleton] at hx; subst hx; have e' : w.heap.size = z := e; omega
  · rw [List.mem_singleton] at hx; subst hx; exact Blk.new _ _ _
end
end Go.Proofs.Ytebffkoonbkhnaa
