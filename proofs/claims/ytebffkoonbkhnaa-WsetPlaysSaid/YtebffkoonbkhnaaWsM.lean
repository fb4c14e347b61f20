/- Layer 8 (wset): a set in memory. -/
import Derived.Test.YtebffkoonbkhnaaBase
import Derived.Test.YtebffkoonbkhnaaRw
import Derived.Test.YtebffkoonbkhnaaWsA
import Derived.Maps.OwnSet
import Derived.Maps.OwnOps
import Derived.Maps.Views
import Derived.Maps.AppendAt
import Derived.StillTailTactics
import Derived.RegionTactic
import Derived.ChangeAlike
import Derived.Lib.Hide
import Derived.Lib.MinMax
import Derived.Deep.QuietTactic
import Derived.BigQuiet
import Derived.Deep.RegionLaw
import Derived.Deep.AppendLies
import Derived.Deep.DeepCutAuto
import Derived.LoopTactic
namespace Go.Proofs.Ytebffkoonbkhnaa
open Go.RowKit Go.Maps

def entL : List (Int × Int) → List Value
  | [] => []
  | e :: r => .int .i64 e.1 :: .int .u64 e.2 :: entL r
def chL : List ChD → List Value
  | [] => []
  | c :: r => .int .i64 (c.place : Int) :: .int .u64 c.was :: .bool c.fresh :: chL r
theorem entL_length (es : List (Int × Int)) : (entL es).length = es.length * 2 := by
  induction es with
  | nil => rfl
  | cons p r ih => simp [entL, ih]; omega
theorem entL_at (es : List (Int × Int)) : ∀ (i : Nat) (p : Int × Int), es[i]? = some p → (entL es)[i * 2]? = some (.int .i64 p.1) ∧ (entL es)[i * 2 + 1]? = some (.int .u64 p.2) := by
  induction es with
  | nil => intro i p h; simp at h
  | cons c r ih =>
    intro i p h
    cases i with
    | zero => simp at h; subst h; exact ⟨rfl, rfl⟩
    | succ i => simp at h; have := ih i p h; rw [Nat.succ_mul]; simpa [entL] using this
theorem entL_set (es : List (Int × Int)) : ∀ (i : Nat) (a v v' : Int), es[i]? = some (a, v) → entL (es.set i (a, v')) = (entL es).set (i * 2 + 1) (.int .u64 v') := by
  induction es with
  | nil => intro i a v v' h; simp at h
  | cons c r ih =>
    intro i a v v' h
    cases i with
    | zero => simp at h; subst h; rfl
    | succ i => simp at h; rw [Nat.succ_mul]; simp [entL, ih i a v v' h]
theorem entL_snoc (es : List (Int × Int)) (e : Int × Int) : entL (es ++ [e]) = entL es ++ [.int .i64 e.1, .int .u64 e.2] := by
  induction es with
  | nil => rfl
  | cons c r ih => simp [entL, ih]
theorem entL_take (es : List (Int × Int)) : ∀ k, (entL es).take (k * 2) = entL (es.take k) := by
  induction es with
  | nil => intro k; simp [entL]
  | cons c r ih =>
    intro k
    cases k with
    | zero => simp [entL]
    | succ k => rw [Nat.succ_mul]; simp [entL, ih k]
theorem entL_one (es : List (Int × Int)) : ∀ u ∈ entL es, u.oneCell' = true := by
  induction es with
  | nil => intro u h; cases h
  | cons c r ih =>
    intro u h
    simp [entL] at h
    rcases h with rfl | rfl | h
    · rfl
    · rfl
    · exact ih u h
theorem chL_length (cs : List ChD) : (chL cs).length = cs.length * 3 := by
  induction cs with
  | nil => rfl
  | cons p r ih => simp [chL, ih]; omega
theorem chL_at (cs : List ChD) : ∀ (i : Nat) (p : ChD), cs[i]? = some p → (chL cs)[i * 3]? = some (.int .i64 (p.place : Int)) ∧ (chL cs)[i * 3 + 1]? = some (.int .u64 p.was) ∧ (chL cs)[i * 3 + 2]? = some (.bool p.fresh) := by
  induction cs with
  | nil => intro i p h; simp at h
  | cons c r ih =>
    intro i p h
    cases i with
    | zero => simp at h; subst h; exact ⟨rfl, rfl, rfl⟩
    | succ i => simp at h; have := ih i p h; rw [Nat.succ_mul]; simpa [chL] using this
theorem chL_snoc (cs : List ChD) (c : ChD) : chL (cs ++ [c]) = chL cs ++ [.int .i64 (c.place : Int), .int .u64 c.was, .bool c.fresh] := by
  induction cs with
  | nil => rfl
  | cons d r ih => simp [chL, ih]
theorem chL_take (cs : List ChD) : ∀ k, (chL cs).take (k * 3) = chL (cs.take k) := by
  induction cs with
  | nil => intro k; simp [chL]
  | cons c r ih =>
    intro k
    cases k with
    | zero => simp [chL]
    | succ k => rw [Nat.succ_mul]; simp [chL, ih k]

/-- A row cut at its end. -/
theorem own_cut {w : World} {base n k size : Nat} {e : TypeId} {g c : Nat} {xs : List Value} (h : w.ownsRow base e size (.slice (some ⟨g, 0, none⟩) n c) n xs) (hk : k ≤ n) :
    w.ownsRow base e size (.slice (some ⟨g, 0, none⟩) k c) k (xs.take (k * size)) := by
  obtain ⟨h1, h2⟩ := h
  refine ⟨by rw [List.length_take, h1, Nat.min_eq_left (Nat.mul_le_mul_right _ hk)], ?_⟩
  rcases h2 with ⟨h, _⟩ | ⟨g', cap, cur, hv, hb, hh, hn, hm, hs, ht⟩
  · cases h
  · injection hv with e1 e2 e3
    injection e1 with e1
    injection e1 with e1
    subst e1 e3
    exact .inr ⟨g, c, cur, rfl, hb, hh, by omega, hm, hs, by rw [← ht, List.take_take, Nat.min_eq_left (Nat.mul_le_mul_right _ hk)]⟩
theorem own_some {w : World} {base n size : Nat} {e : TypeId} {v : Value} {xs : List Value} (h : w.ownsRow base e size v n xs) (hn : 0 < n) : ∃ g c, v = .slice (some ⟨g, 0, none⟩) n c ∧ n ≤ c := by
  rcases h.2 with ⟨_, h⟩ | ⟨g, cap, cur, rfl, _, _, hc, _⟩
  · omega
  · exact ⟨g, cap, rfl, hc⟩

theorem lawInt : Keyed Try.prog 3 := int_keyed Try.underlying3
theorem zeroInt (w : World) : (zeroValue 3).run Try.prog w = .ok (.int .i64 0) w := by kernel_rfl
def I64 (x : Int) : Prop := -9223372036854775808 ≤ x ∧ x ≤ 9223372036854775807
theorem I64.wf {x : Int} (h : I64 x) : (Lit.int .i64 x).wf = true := WalkArith.wf_i64 h
/-- A map of cells to where their entries stand. -/
def IMap (w : World) (b n : Nat) (es : List (Int × Int)) : Prop :=
  ∃ D : DataW Unit, w.ownsMap Try.prog 3 (plainElem Try.prog 3) b n D ∧ IsMap D ∧ ∀ a, Maps.has D (.int .i64 a) = (idx es a).isSome ∧ ∀ j, idx es a = some j → D.atKey (.int .i64 a) (.lit (.int .i64 0)) = .lit (.int .i64 j)
theorem IMap.made (w : World) : IMap (w.alloc (.map #[] 0)) w.heap.size 0 [] := ⟨.map [], World.ownsMap_made _ _ _ _, isMap_empty, fun a => ⟨rfl, fun j h => by cases h⟩⟩
section
variable {w w' : World} {b n : Nat} {es : List (Int × Int)}
theorem IMap.lt (h : IMap w b n es) : b < w.heap.size := let ⟨_, h, _⟩ := h; h.lt
theorem IMap.kept {S : Nat → Prop} (h : IMap w b n es) (k : Kept S w w') (hb : ¬ S b) : IMap w' b n es := by
  obtain ⟨D, ⟨es, c, h1, h2⟩, h3⟩ := h
  exact ⟨D, ⟨es, c, (k.block b (by have := (Array.getElem?_eq_some_iff.1 h1).1; exact this) hb).trans h1, h2⟩, h3⟩
theorem IMap.same (h : IMap w b n es) {es' : List (Int × Int)} (he : ∀ a, idx es' a = idx es a) : IMap w b n es' := by
  obtain ⟨D, h1, h2, h3⟩ := h
  exact ⟨D, h1, h2, fun a => by rw [he a]; exact h3 a⟩
theorem IMap.more (h : IMap w b n es) {n' : Nat} (hn : n ≤ n') : IMap w b n' es := by
  obtain ⟨D, h1, h2⟩ := h
  exact ⟨D, h1.mono hn, h2⟩
theorem IMap.ne (h : IMap w b n es) {g : Nat} {t : TypeId} {cs : Array Value} (hg : Blk w g t cs) : b ≠ g := by
  rintro rfl
  obtain ⟨D, ⟨es, c, h1, _⟩, _⟩ := h
  unfold Blk at hg
  rw [h1] at hg
  cases hg
theorem IMap.ne_own (h : IMap w b n es) {base m size : Nat} {e : TypeId} {v : Value} {xs : List Value} (ho : w.ownsRow base e size v m xs) : some b ≠ v.ownBlock := by
  rcases ho.2 with ⟨rfl, _⟩ | ⟨g', cap, cur, rfl, _, hh, _⟩
  · simp [Value.ownBlock]
  · intro he
    exact h.ne (show Blk w g' e cur from hh) (by simpa [Value.ownBlock] using he)
theorem look_ent (h : IMap w b n es) {a : Int} (ha : I64 a) : ∃ c : Int, (∀ j, idx es a = some j → c = j) ∧ (idx es a = none → c = 0) ∧
    ∀ W : World, W.heap[b]? = w.heap[b]? → (Instr.lookup 106 (.map (some b)) (.int .i64 a) true).run Try.prog W = .ok (.tuple #[.int .i64 c, .bool (idx es a).isSome]) W := by
  obtain ⟨D, ⟨ee, ck, h1, h2⟩, hI, hD⟩ := h
  have hkey := keyOf_int_mk (P := Try.prog) Try.underlying3 ha.wf
  have at_ : ∀ W : World, W.heap[b]? = w.heap[b]? → ∃ c : Int, (Instr.lookup 106 (.map (some b)) (.int .i64 a) true).run Try.prog W = .ok (.tuple #[.int .i64 c, .bool (Maps.has D (.int .i64 a))]) W ∧ D.atKey (.int .i64 a) (.lit (.int .i64 0)) = .lit (.int .i64 c) := fun W hW => by
    have ho : W.ownsMap Try.prog 3 (plainElem Try.prog 3) b n D := ⟨ee, ck, hW.trans h1, h2⟩
    obtain ⟨v, ps, hr, hv⟩ := ho.look_ok lawInt Try.underlying106 (zeroInt W) (plainElem_int (e := 3) Try.underlying3 (by decide)) hkey
    obtain ⟨c, rfl, hc, _⟩ := plainElem_int_inv Try.underlying3 hv
    exact ⟨c, hr, congrArg Prod.fst hc⟩
  obtain ⟨c, _, hc⟩ := at_ w rfl
  refine ⟨c, fun j hj => ?_, fun hn => ?_, fun W hW => ?_⟩
  · have h3 := (hD _).2 j hj
    rw [hc] at h3
    simpa using h3
  · have h4 : Maps.has D (.int .i64 a) = false := by rw [(hD _).1, hn]; rfl
    have h3 := atKey_of_not_has h4 (.lit (.int .i64 0))
    rw [hc] at h3
    simpa using h3
  · obtain ⟨c', hr, hc'⟩ := at_ W hW
    rw [hc] at hc'
    have hcc : c = c' := by simpa using hc'
    rw [hr, ← hcc, (hD _).1]
theorem IMap.put {D : DataW Unit} (hm : IsMap D) (hD : ∀ a, Maps.has D (.int .i64 a) = (idx es a).isSome ∧ ∀ j, idx es a = some j → D.atKey (.int .i64 a) (.lit (.int .i64 0)) = .lit (.int .i64 j))
    (a v : Int) (hn : idx es a = none) (h : w'.ownsMap Try.prog 3 (plainElem Try.prog 3) b n (D.put (.int .i64 a) (.lit (.int .i64 es.length)))) : IMap w' b n (es ++ [(a, v)]) := by
  refine ⟨_, h, hm.put _ _, fun x => ?_⟩
  rw [idx_snoc]
  by_cases e : x = a
  · subst e
    rw [hn]
    simp only [Option.none_or, if_true]
    refine ⟨has_put_same hm (show WideAt.IsKeyLit (Lit.int .i64 x) from trivial) _, fun j' h' => ?_⟩
    obtain rfl := Option.some.inj h'
    exact atKey_put_same hm (show WideAt.IsKeyLit (Lit.int .i64 x) from trivial) _ _
  · rw [if_neg (fun h => e h.symm), Option.or_none]
    have ne : Lit.int .i64 x ≠ Lit.int .i64 a := fun h => e (by injection h)
    exact ⟨(has_put_other ne _).trans (hD x).1, fun j' h' => (atKey_put_other ne _ _).trans ((hD x).2 j' h')⟩
end
end Go.Proofs.Ytebffkoonbkhnaa
