/- Maps of numbers to numbers, in memory. -/
import Derived.Test.YthjkodjpopcjaaaWsC
namespace Go.Proofs.Ythjkodjpopcjaaa
open Go.RowKit Go.Maps

structure MTy where
  q : IntKind
  r : IntKind
  kt : TypeId
  et : TypeId
  mt : TypeId
structure MTy.Fine (T : MTy) : Prop where
  key : Try.prog.underlying T.kt = some (.int T.q)
  el : Try.prog.underlying T.et = some (.int T.r)
  ty : Try.prog.underlying T.mt = some (.map T.kt T.et)
  zero : ∀ w, (zeroValue T.et).run Try.prog w = .ok (.int T.r 0) w
/-- The block b is a map that tells what f does. -/
def NMap (T : MTy) (w : World) (b n : Nat) (f : Int → Option Int) : Prop :=
  ∃ D : DataW Unit, w.ownsMap Try.prog T.kt (plainElem Try.prog T.et) b n D ∧ IsMap D ∧ ∀ a, Maps.has D (.int T.q a) = (f a).isSome ∧ ∀ j, f a = some j → D.atKey (.int T.q a) (.lit (.int T.r 0)) = .lit (.int T.r j)
def upd (f : Int → Option Int) (a v : Int) (x : Int) : Option Int := if x = a then some v else f x
theorem NMap.made (T : MTy) (w : World) : NMap T (w.alloc (.map #[] 0)) w.heap.size 0 (fun _ => none) := ⟨.map [], World.ownsMap_made _ _ _ _, isMap_empty, fun a => ⟨rfl, fun j h => by cases h⟩⟩
section
variable {T : MTy} {w w' : World} {b n : Nat} {f : Int → Option Int}
theorem NMap.lt (h : NMap T w b n f) : b < w.heap.size := let ⟨_, h, _⟩ := h; h.lt
theorem NMap.kept {S : Nat → Prop} (h : NMap T w b n f) (k : Kept S w w') (hb : ¬ S b) : NMap T w' b n f := by
  obtain ⟨D, ⟨es, c, h1, h2⟩, h3⟩ := h
  exact ⟨D, ⟨es, c, (k.block b (by have := (Array.getElem?_eq_some_iff.1 h1).1; exact this) hb).trans h1, h2⟩, h3⟩
theorem NMap.ne (h : NMap T w b n f) {g : Nat} {t : TypeId} {cs : Array Value} (hg : Blk w g t cs) : b ≠ g := by
  rintro rfl
  obtain ⟨D, ⟨es, c, h1, _⟩, _⟩ := h
  unfold Blk at hg
  rw [h1] at hg
  cases hg
theorem NMap.ne_own (h : NMap T w b n f) {base m size : Nat} {e : TypeId} {v : Value} {xs : List Value} (ho : w.ownsRow base e size v m xs) : some b ≠ v.ownBlock := by
  rcases ho.2 with ⟨rfl, _⟩ | ⟨g', cap, cur, rfl, _, hh, _⟩
  · simp [Value.ownBlock]
  · intro he
    exact h.ne (show Blk w g' e cur from hh) (by simpa [Value.ownBlock] using he)
theorem NMap.look (h : NMap T w b n f) (hT : T.Fine) {a : Int} (ha : (Lit.int T.q a).wf = true) :
    ∀ W : World, W.heap[b]? = w.heap[b]? → (Instr.lookup T.mt (.map (some b)) (.int T.q a) true).run Try.prog W = .ok (.tuple #[.int T.r ((f a).getD 0), .bool (f a).isSome]) W ∧ (Instr.lookup T.mt (.map (some b)) (.int T.q a) false).run Try.prog W = .ok (.int T.r ((f a).getD 0)) W := by
  intro W hW
  obtain ⟨D, ⟨ee, ck, h1, h2⟩, hI, hD⟩ := h
  have hkey := keyOf_int_mk (P := Try.prog) hT.key ha
  have ho : W.ownsMap Try.prog T.kt (plainElem Try.prog T.et) b n D := ⟨ee, ck, hW.trans h1, h2⟩
  have hw0 : (Lit.int T.r 0).wf = true := by cases T.r <;> decide
  have key : D.atKey (.int T.q a) (.lit (.int T.r 0)) = .lit (.int T.r ((f a).getD 0)) := by
    cases hf : f a with
    | none =>
      have h4 : Maps.has D (.int T.q a) = false := by rw [(hD _).1, hf]; rfl
      exact atKey_of_not_has h4 _
    | some j => exact (hD _).2 j hf
  refine ⟨?_, ?_⟩
  · obtain ⟨v, ps, hr, hv⟩ := ho.look_ok (int_keyed hT.key) hT.ty (hT.zero W) (plainElem_int hT.el hw0) hkey
    obtain ⟨c, rfl, hc, _⟩ := plainElem_int_inv hT.el hv
    have hc1 := congrArg Prod.fst hc
    simp only [key] at hc1
    have hcc : (f a).getD 0 = c := by simpa using hc1
    rw [hr, ← hcc, (hD _).1]
  · obtain ⟨c, hr, hc, _⟩ := ho.lookup_int (int_keyed hT.key) hT.ty hT.el (hT.zero W) hkey
    rw [key] at hc
    have hcc : (f a).getD 0 = c := by simpa using hc
    rw [hr, ← hcc]
theorem NMap.set (h : NMap T w b n f) (hT : T.Fine) (hn : n < maxLen) {a v : Int} (ha : (Lit.int T.q a).wf = true) (hv : (Lit.int T.r v).wf = true) :
    ∃ w', (Instr.mapUpdate T.mt (.map (some b)) (.int T.q a) (.int T.r v)).run Try.prog w = .ok () w' ∧ NMap T w' b (n + 1) (upd f a v) ∧ Kept (fun k => k = b) w w' := by
  obtain ⟨D, ho, hI, hD⟩ := h
  obtain ⟨w', hr, ho', hg⟩ := ho.update (int_keyed hT.key) hT.ty hn (keyOf_int_mk (P := Try.prog) hT.key ha) (plainElem_int hT.el hv)
  refine ⟨w', hr, ⟨_, ho', hI.put _ _, fun x => ?_⟩, (Kept.grown hg).mono (fun k _ h => Option.some.inj h)⟩
  unfold upd
  by_cases e : x = a
  · subst e
    rw [if_pos rfl]
    refine ⟨has_put_same hI (show WideAt.IsKeyLit (Lit.int T.q x) from trivial) _, fun j' h' => ?_⟩
    obtain rfl := Option.some.inj h'
    exact atKey_put_same hI (show WideAt.IsKeyLit (Lit.int T.q x) from trivial) _ _
  · rw [if_neg e]
    have ne : Lit.int T.q x ≠ Lit.int T.q a := fun h => e (by injection h)
    exact ⟨(has_put_other ne _).trans (hD x).1, fun j' h' => (atKey_put_other ne _ _).trans ((hD x).2 j' h')⟩
end
end Go.Proofs.Ythjkodjpopcjaaa
