/- PoolCounts: the law's walk. -/
import Derived.Test.YthjkodjpopcjaaaPoO
namespace Go.Proofs.Ythjkodjpopcjaaa
open Go.RowKit Go.Maps
attribute [local go_sem ↓] loadMap_eq stMap_eq loadCfg_eq

/-- A map of the numbers below k, each told once. -/
def SeenM (w : World) (h k : Nat) : Prop :=
  ∃ D : DataW Unit, w.ownsMap Try.prog 3 (plainElem Try.prog 3) h k D ∧ Maps.size D = k ∧ ∀ a : Int, Maps.has D (.int .i64 a) = decide (0 ≤ a ∧ a < k)
theorem SeenM.made (w : World) : SeenM (w.alloc (.map #[] 0)) w.heap.size 0 := ⟨.map [], World.ownsMap_made _ _ _ _, rfl, fun a => (decide_eq_false (by omega)).symm⟩
theorem SeenM.lt {w : World} {h k : Nat} (s : SeenM w h k) : h < w.heap.size := let ⟨_, s, _⟩ := s; s.lt
theorem SeenM.kept {S : Nat → Prop} {w w' : World} {h k : Nat} (s : SeenM w h k) (kk : Kept S w w') (hs : ¬ S h) : SeenM w' h k := by
  obtain ⟨D, ⟨es, c, h1, h2⟩, h3⟩ := s
  exact ⟨D, ⟨es, c, (kk.block h (by have := (Array.getElem?_eq_some_iff.1 h1).1; exact this) hs).trans h1, h2⟩, h3⟩
theorem SeenM.look {w : World} {h k : Nat} (s : SeenM w h k) (hk : k ≤ 1000) : (Instr.lookup 103 (.map (some h)) (.int .i64 (k : Int)) false).run Try.prog w = .ok (.int .i64 0) w := by
  obtain ⟨D, h1, _, h3⟩ := s
  obtain ⟨c, hr, hc, _⟩ := h1.lookup_int lawInt Try.underlying103 Try.underlying3 (zeroInt w) (keyOf_int_mk (P := Try.prog) Try.underlying3 (WalkArith.wf_i64 (n := (k : Int)) (by omega)))
  have h4 : Maps.has D (.int .i64 (k : Int)) = false := by rw [h3]; simp
  rw [atKey_of_not_has h4 _] at hc
  have : c = 0 := by simpa using hc.symm
  rw [hr, this]
theorem SeenM.set {w : World} {h k : Nat} (s : SeenM w h k) (hk : k ≤ 1000) : ∃ w', (Instr.mapUpdate 103 (.map (some h)) (.int .i64 (k : Int)) (.int .i64 1)).run Try.prog w = .ok () w' ∧ SeenM w' h (k + 1) ∧ Kept (fun x => x = h) w w' := by
  obtain ⟨D, h1, h2, h3⟩ := s
  obtain ⟨w', hr, ho', hg⟩ := h1.update lawInt Try.underlying103 (by unfold maxLen; omega) (keyOf_int_mk (P := Try.prog) Try.underlying3 (WalkArith.wf_i64 (n := (k : Int)) (by omega))) (plainElem_int (e := 3) Try.underlying3 (WalkArith.wf_i64 (n := 1) (by decide)))
  refine ⟨w', hr, ⟨_, ho', ?_, fun a => ?_⟩, (Kept.grown hg).mono (fun x _ hx => Option.some.inj hx)⟩
  · rw [size_put (h1.tidy lawInt), h3, h2]
    simp
  · by_cases e : a = k
    · subst e
      rw [has_put_same (h1.isMap) (show WideAt.IsKeyLit (Lit.int .i64 (k : Int)) from trivial)]
      exact (decide_eq_true (by omega)).symm
    · have ne : Lit.int .i64 a ≠ Lit.int .i64 (k : Int) := fun h => e (by injection h)
      rw [has_put_other ne, h3]
      exact decide_eq_decide.2 (by omega)
theorem SeenM.len {w : World} {h k : Nat} (s : SeenM w h k) (ty : TypeId) : (Builtin.len_ #[103] ty #[.map (some h)]).run Try.prog w = .ok (.int .i64 (k : Int)) w := by
  obtain ⟨D, h1, h2, h3⟩ := s
  rw [h1.len Try.underlying103 ty, h2]
section
variable {G : Nat → Prop} {R : World → Prop} {w0 w w' : World} {B mb : Nat} {lv : Value} {c : CfgD} {p : PoD} {n b : Nat} {r : Int} {ps : List (Int × Int)} {k : Nat}
/-- A new block is watched over. -/
theorem PX.watch (h : PX G R w0 w B mb lv c p n b r ps k) (o : Obj) (R' : World → Prop) (hr : R' (w.alloc o)) (hs : ∀ a c, R a → R' a → Kept (fun x => ¬ (G x ∨ x = w.heap.size)) a c → R' c) : PX (fun x => G x ∨ x = w.heap.size) (fun W => R W ∧ R' W) w0 (w.alloc o) B mb lv c p n b r ps k := by
  have h1 := h.keep ((Kept.refl _ w).alloc o)
  have hset := (h.set.mono (G := fun x => w0.heap.size ≤ x ∧ ¬ PF B mb lv x ∧ ¬ (G x ∨ x = w.heap.size)) (fun x hx hF => ⟨hF.1, hF.2.1, fun g => g.elim hF.2.2 (fun e => by omega)⟩)).keep ((Kept.refl _ w).alloc o)
  refine ⟨h1.pool, hset, h1.kept, fun x hx => ⟨(h.old x hx).1, fun g => ?_⟩, fun x hx => ?_, ⟨h1.holds, hr⟩, fun a c ha k => ⟨h.stays a c ha.1 (k.mono (fun x _ hn g => hn (.inl g))), hs a c ha.1 ha.2 k⟩, h.len, h.wf⟩
  · rcases g with g | rfl
    · exact (h.old x hx).2 g
    · exact absurd (h.pool.lt hx) (Nat.lt_irrefl _)
  · rcases hx with g | rfl
    · exact h1.low x g
    · simp
/-- What is watched over turns. -/
theorem PX.turnR (h : PX G R w0 w B mb lv c p n b r ps k) {S : Nat → Prop} {R' : World → Prop} (kk : Kept S w w') (hS : ∀ x, S x → G x ∧ w0.heap.size ≤ x) (hr : R' w') (hs : ∀ a c, R' a → Kept (fun x => ¬ G x) a c → R' c) : PX G R' w0 w' B mb lv c p n b r ps k :=
  ⟨h.pool.kept kk (fun x hx s => (h.old x hx).2 (hS x s).1), h.set.kept kk (fun x hF s => hF.2.2 (hS x s).1), h.kept.trans' kk (fun x hx s => by have := (hS x s).2; omega), h.old, fun x hx => Nat.lt_of_lt_of_le (h.low x hx) kk.size, hr, hs, h.len, h.wf⟩
end
end Go.Proofs.Ythjkodjpopcjaaa
