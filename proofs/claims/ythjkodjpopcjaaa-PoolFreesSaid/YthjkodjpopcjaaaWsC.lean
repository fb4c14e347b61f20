/- Layer 8 (wset): a set in memory. -/
/- Layer 8 (wset): what each write leaves of a set in memory. -/
import Derived.Test.YthjkodjpopcjaaaBase
import Derived.Test.YthjkodjpopcjaaaRw
import Derived.Test.YthjkodjpopcjaaaWsA
import Derived.Maps.OwnSet
import Derived.Maps.OwnOps
import Derived.Maps.Views
import Derived.Maps.AppendAt
import Derived.StillTailTactics
import Derived.RegionTactic
import Derived.ChangeAlike
import Derived.Lib.Hide
import Derived.Lib.MinMax
import Derived.Deep.QuietTactic
import Derived.BigQuiet
import Derived.Deep.RegionLaw
import Derived.Deep.AppendLies
import Derived.Deep.DeepCutAuto
import Derived.LoopTactic
namespace Go.Proofs.Ythjkodjpopcjaaa
open Go.RowKit Go.Maps

def entL : List (Int × Int) → List Value
  | [] => []
  | e :: r => .int .i64 e.1 :: .int .u64 e.2 :: entL r
def chL : List ChD → List Value
  | [] => []
  | c :: r => .int .i64 (c.place : Int) :: .int .u64 c.was :: .bool c.fresh :: chL r
theorem entL_length (es : List (Int × Int)) : (entL es).length = es.length * 2 := by
  induction es with
  | nil => rfl
  | cons p r ih => simp [entL, ih]; omega
theorem entL_at (es : List (Int × Int)) : ∀ (i : Nat) (p : Int × Int), es[i]? = some p → (entL es)[i * 2]? = some (.int .i64 p.1) ∧ (entL es)[i * 2 + 1]? = some (.int .u64 p.2) := by
  induction es with
  | nil => intro i p h; simp at h
  | cons c r ih =>
    intro i p h
    cases i with
    | zero => simp at h; subst h; exact ⟨rfl, rfl⟩
    | succ i => simp at h; have := ih i p h; rw [Nat.succ_mul]; simpa [entL] using this
theorem entL_set (es : List (Int × Int)) : ∀ (i : Nat) (a v v' : Int), es[i]? = some (a, v) → entL (es.set i (a, v')) = (entL es).set (i * 2 + 1) (.int .u64 v') := by
  induction es with
  | nil => intro i a v v' h; simp at h
  | cons c r ih =>
    intro i a v v' h
    cases i with
    | zero => simp at h; subst h; rfl
    | succ i => simp at h; rw [Nat.succ_mul]; simp [entL, ih i a v v' h]
theorem entL_snoc (es : List (Int × Int)) (e : Int × Int) : entL (es ++ [e]) = entL es ++ [.int .i64 e.1, .int .u64 e.2] := by
  induction es with
  | nil => rfl
  | cons c r ih => simp [entL, ih]
theorem entL_take (es : List (Int × Int)) : ∀ k, (entL es).take (k * 2) = entL (es.take k) := by
  induction es with
  | nil => intro k; simp [entL]
  | cons c r ih =>
    intro k
    cases k with
    | zero => simp [entL]
    | succ k => rw [Nat.succ_mul]; simp [entL, ih k]
theorem entL_one (es : List (Int × Int)) : ∀ u ∈ entL es, u.oneCell' = true := by
  induction es with
  | nil => intro u h; cases h
  | cons c r ih =>
    intro u h
    simp [entL] at h
    rcases h with rfl | rfl | h
    · rfl
    · rfl
    · exact ih u h
theorem chL_length (cs : List ChD) : (chL cs).length = cs.length * 3 := by
  induction cs with
  | nil => rfl
  | cons p r ih => simp [chL, ih]; omega
theorem chL_at (cs : List ChD) : ∀ (i : Nat) (p : ChD), cs[i]? = some p → (chL cs)[i * 3]? = some (.int .i64 (p.place : Int)) ∧ (chL cs)[i * 3 + 1]? = some (.int .u64 p.was) ∧ (chL cs)[i * 3 + 2]? = some (.bool p.fresh) := by
  induction cs with
  | nil => intro i p h; simp at h
  | cons c r ih =>
    intro i p h
    cases i with
    | zero => simp at h; subst h; exact ⟨rfl, rfl, rfl⟩
    | succ i => simp at h; have := ih i p h; rw [Nat.succ_mul]; simpa [chL] using this
theorem chL_snoc (cs : List ChD) (c : ChD) : chL (cs ++ [c]) = chL cs ++ [.int .i64 (c.place : Int), .int .u64 c.was, .bool c.fresh] := by
  induction cs with
  | nil => rfl
  | cons d r ih => simp [chL, ih]
theorem chL_take (cs : List ChD) : ∀ k, (chL cs).take (k * 3) = chL (cs.take k) := by
  induction cs with
  | nil => intro k; simp [chL]
  | cons c r ih =>
    intro k
    cases k with
    | zero => simp [chL]
    | succ k => rw [Nat.succ_mul]; simp [chL, ih k]

/-- A row cut at its end. -/
theorem own_cut {w : World} {base n k size : Nat} {e : TypeId} {g c : Nat} {xs : List Value} (h : w.ownsRow base e size (.slice (some ⟨g, 0, none⟩) n c) n xs) (hk : k ≤ n) :
    w.ownsRow base e size (.slice (some ⟨g, 0, none⟩) k c) k (xs.take (k * size)) := by
  obtain ⟨h1, h2⟩ := h
  refine ⟨by rw [List.length_take, h1, Nat.min_eq_left (Nat.mul_le_mul_right _ hk)], ?_⟩
  rcases h2 with ⟨h, _⟩ | ⟨g', cap, cur, hv, hb, hh, hn, hm, hs, ht⟩
  · cases h
  · injection hv with e1 e2 e3
    injection e1 with e1
    injection e1 with e1
    subst e1 e3
    exact .inr ⟨g, c, cur, rfl, hb, hh, by omega, hm, hs, by rw [← ht, List.take_take, Nat.min_eq_left (Nat.mul_le_mul_right _ hk)]⟩
theorem own_some {w : World} {base n size : Nat} {e : TypeId} {v : Value} {xs : List Value} (h : w.ownsRow base e size v n xs) (hn : 0 < n) : ∃ g c, v = .slice (some ⟨g, 0, none⟩) n c ∧ n ≤ c := by
  rcases h.2 with ⟨_, h⟩ | ⟨g, cap, cur, rfl, _, _, hc, _⟩
  · omega
  · exact ⟨g, cap, rfl, hc⟩

theorem lawInt : Keyed Try.prog 3 := int_keyed Try.underlying3
theorem zeroInt (w : World) : (zeroValue 3).run Try.prog w = .ok (.int .i64 0) w := by kernel_rfl
def I64 (x : Int) : Prop := -9223372036854775808 ≤ x ∧ x ≤ 9223372036854775807
theorem I64.wf {x : Int} (h : I64 x) : (Lit.int .i64 x).wf = true := WalkArith.wf_i64 h
/-- A map of cells to where their entries stand. -/
def IMap (w : World) (b n : Nat) (es : List (Int × Int)) : Prop :=
  ∃ D : DataW Unit, w.ownsMap Try.prog 3 (plainElem Try.prog 3) b n D ∧ IsMap D ∧ ∀ a, Maps.has D (.int .i64 a) = (idx es a).isSome ∧ ∀ j, idx es a = some j → D.atKey (.int .i64 a) (.lit (.int .i64 0)) = .lit (.int .i64 j)
theorem IMap.made (w : World) : IMap (w.alloc (.map #[] 0)) w.heap.size 0 [] := ⟨.map [], World.ownsMap_made _ _ _ _, isMap_empty, fun a => ⟨rfl, fun j h => by cases h⟩⟩
section
variable {w w' : World} {b n : Nat} {es : List (Int × Int)}
theorem IMap.lt (h : IMap w b n es) : b < w.heap.size := let ⟨_, h, _⟩ := h; h.lt
theorem IMap.kept {S : Nat → Prop} (h : IMap w b n es) (k : Kept S w w') (hb : ¬ S b) : IMap w' b n es := by
  obtain ⟨D, ⟨es, c, h1, h2⟩, h3⟩ := h
  exact ⟨D, ⟨es, c, (k.block b (by have := (Array.getElem?_eq_some_iff.1 h1).1; exact this) hb).trans h1, h2⟩, h3⟩
theorem IMap.same (h : IMap w b n es) {es' : List (Int × Int)} (he : ∀ a, idx es' a = idx es a) : IMap w b n es' := by
  obtain ⟨D, h1, h2, h3⟩ := h
  exact ⟨D, h1, h2, fun a => by rw [he a]; exact h3 a⟩
theorem IMap.more (h : IMap w b n es) {n' : Nat} (hn : n ≤ n') : IMap w b n' es := by
  obtain ⟨D, h1, h2⟩ := h
  exact ⟨D, h1.mono hn, h2⟩
theorem IMap.ne (h : IMap w b n es) {g : Nat} {t : TypeId} {cs : Array Value} (hg : Blk w g t cs) : b ≠ g := by
  rintro rfl
  obtain ⟨D, ⟨es, c, h1, _⟩, _⟩ := h
  unfold Blk at hg
  rw [h1] at hg
  cases hg
theorem IMap.ne_own (h : IMap w b n es) {base m size : Nat} {e : TypeId} {v : Value} {xs : List Value} (ho : w.ownsRow base e size v m xs) : some b ≠ v.ownBlock := by
  rcases ho.2 with ⟨rfl, _⟩ | ⟨g', cap, cur, rfl, _, hh, _⟩
  · simp [Value.ownBlock]
  · intro he
    exact h.ne (show Blk w g' e cur from hh) (by simpa [Value.ownBlock] using he)
theorem look_ent (h : IMap w b n es) {a : Int} (ha : I64 a) : ∃ c : Int, (∀ j, idx es a = some j → c = j) ∧ (idx es a = none → c = 0) ∧
    ∀ W : World, W.heap[b]? = w.heap[b]? → (Instr.lookup 103 (.map (some b)) (.int .i64 a) true).run Try.prog W = .ok (.tuple #[.int .i64 c, .bool (idx es a).isSome]) W := by
  obtain ⟨D, ⟨ee, ck, h1, h2⟩, hI, hD⟩ := h
  have hkey := keyOf_int_mk (P := Try.prog) Try.underlying3 ha.wf
  have at_ : ∀ W : World, W.heap[b]? = w.heap[b]? → ∃ c : Int, (Instr.lookup 103 (.map (some b)) (.int .i64 a) true).run Try.prog W = .ok (.tuple #[.int .i64 c, .bool (Maps.has D (.int .i64 a))]) W ∧ D.atKey (.int .i64 a) (.lit (.int .i64 0)) = .lit (.int .i64 c) := fun W hW => by
    have ho : W.ownsMap Try.prog 3 (plainElem Try.prog 3) b n D := ⟨ee, ck, hW.trans h1, h2⟩
    obtain ⟨v, ps, hr, hv⟩ := ho.look_ok lawInt Try.underlying103 (zeroInt W) (plainElem_int (e := 3) Try.underlying3 (by decide)) hkey
    obtain ⟨c, rfl, hc, _⟩ := plainElem_int_inv Try.underlying3 hv
    exact ⟨c, hr, congrArg Prod.fst hc⟩
  obtain ⟨c, _, hc⟩ := at_ w rfl
  refine ⟨c, fun j hj => ?_, fun hn => ?_, fun W hW => ?_⟩
  · have h3 := (hD _).2 j hj
    rw [hc] at h3
    simpa using h3
  · have h4 : Maps.has D (.int .i64 a) = false := by rw [(hD _).1, hn]; rfl
    have h3 := atKey_of_not_has h4 (.lit (.int .i64 0))
    rw [hc] at h3
    simpa using h3
  · obtain ⟨c', hr, hc'⟩ := at_ W hW
    rw [hc] at hc'
    have hcc : c = c' := by simpa using hc'
    rw [hr, ← hcc, (hD _).1]
theorem IMap.put {D : DataW Unit} (hm : IsMap D) (hD : ∀ a, Maps.has D (.int .i64 a) = (idx es a).isSome ∧ ∀ j, idx es a = some j → D.atKey (.int .i64 a) (.lit (.int .i64 0)) = .lit (.int .i64 j))
    (a v : Int) (hn : idx es a = none) (h : w'.ownsMap Try.prog 3 (plainElem Try.prog 3) b n (D.put (.int .i64 a) (.lit (.int .i64 es.length)))) : IMap w' b n (es ++ [(a, v)]) := by
  refine ⟨_, h, hm.put _ _, fun x => ?_⟩
  rw [idx_snoc]
  by_cases e : x = a
  · subst e
    rw [hn]
    simp only [Option.none_or, if_true]
    refine ⟨has_put_same hm (show WideAt.IsKeyLit (Lit.int .i64 x) from trivial) _, fun j' h' => ?_⟩
    obtain rfl := Option.some.inj h'
    exact atKey_put_same hm (show WideAt.IsKeyLit (Lit.int .i64 x) from trivial) _ _
  · rw [if_neg (fun h => e h.symm), Option.or_none]
    have ne : Lit.int .i64 x ≠ Lit.int .i64 a := fun h => e (by injection h)
    exact ⟨(has_put_other ne _).trans (hD x).1, fun j' h' => (atKey_put_other ne _ _).trans ((hD x).2 j' h')⟩
end
end Go.Proofs.Ythjkodjpopcjaaa

namespace Go.Proofs.Ythjkodjpopcjaaa
open Go.RowKit Go.Maps

theorem IMap.del {w' : World} {b n : Nat} {es : List (Int × Int)} {D : DataW Unit} (hm : IsMap D) (a v : Int) (hn : idx es a = none)
    (hD : ∀ x, Maps.has D (.int .i64 x) = (idx (es ++ [(a, v)]) x).isSome ∧ ∀ j, idx (es ++ [(a, v)]) x = some j → D.atKey (.int .i64 x) (.lit (.int .i64 0)) = .lit (.int .i64 j))
    (h : w'.ownsMap Try.prog 3 (plainElem Try.prog 3) b n (D.del (.int .i64 a))) : IMap w' b n es := by
  refine ⟨_, h, hm.del _, fun x => ?_⟩
  by_cases e : x = a
  · subst e
    rw [hn]
    exact ⟨has_del_same, fun j hj => by cases hj⟩
  · have ne : Lit.int .i64 x ≠ Lit.int .i64 a := fun h => e (by injection h)
    have hx : idx (es ++ [(a, v)]) x = idx es x := by rw [idx_snoc, if_neg (fun h => e h.symm), Option.or_none]
    have := hD x
    rw [hx] at this
    exact ⟨(has_del_other ne).trans this.1, fun j hj => (atKey_del_other ne _).trans (this.2 j hj)⟩

theorem Kept.trans' {S T : Nat → Prop} {a b w : World} (h : Kept S a b) (h' : Kept T b w) (hs : ∀ k, k < a.heap.size → T k → S k) : Kept S a w :=
  ⟨h'.os.trans h.os, h'.tape.trans h.tape, h'.output.trans h.output, Nat.le_trans h.size h'.size, fun k hk hn => (h'.block k (Nat.lt_of_lt_of_le hk h.size) (fun ht => hn (hs k hk ht))).trans (h.block k hk hn)⟩
theorem own_ne {w : World} {base base' : Nat} {e e' : TypeId} {size size' n n' : Nat} {v v' : Value} {xs xs' : List Value} (h : w.ownsRow base e size v n xs) (h' : w.ownsRow base' e' size' v' n' xs') (hne : e ≠ e') :
    v.ownBlock = none ∨ v.ownBlock ≠ v'.ownBlock := by
  rcases h.2 with ⟨rfl, _⟩ | ⟨g, cap, cur, rfl, _, hh, _⟩
  · exact .inl rfl
  · refine .inr fun e => ?_
    exact own_blk_ne h' (show Blk w g _ cur from hh) hne.symm e

/-- A set, in memory: its entries es, its changes cs; the table is of ks. -/
structure SetC (w : World) (b mb : Nat) (ev cv : Value) (room : Int) (es ks : List (Int × Int)) (cs : List ChD) (n : Nat) : Prop where
  blk : Blk w b 138 #[.int .i64 room, ev, .map (some mb), cv]
  map : IMap w mb n ks
  ens : w.ownsRow 0 150 2 ev es.length (entL es)
  chg : w.ownsRow 0 146 3 cv cs.length (chL cs)
def Foot (b mb : Nat) (ev cv : Value) (x : Nat) : Prop := x = b ∨ x = mb ∨ ev.ownBlock = some x ∨ cv.ownBlock = some x
section
variable {w w1 w2 w' : World} {b mb : Nat} {ev cv : Value} {room : Int} {es ks : List (Int × Int)} {cs : List ChD} {n : Nat}
theorem SetC.lt (M : SetC w b mb ev cv room es ks cs n) {x : Nat} (h : Foot b mb ev cv x) : x < w.heap.size := by
  rcases h with rfl | rfl | h | h
  · exact M.blk.lt
  · exact M.map.lt
  · exact (M.ens.lt x h).2
  · exact (M.chg.lt x h).2
theorem SetC.kept {S : Nat → Prop} (M : SetC w b mb ev cv room es ks cs n) (k : Kept S w w') (hS : ∀ x, Foot b mb ev cv x → ¬ S x) : SetC w' b mb ev cv room es ks cs n :=
  ⟨k.blk M.blk (hS _ (.inl rfl)), M.map.kept k (hS _ (.inr (.inl rfl))), k.own M.ens (fun x hx => hS x (.inr (.inr (.inl hx)))), k.own M.chg (fun x hx => hS x (.inr (.inr (.inr hx))))⟩
theorem SetC.keep (M : SetC w b mb ev cv room es ks cs n) (k : Kept (fun _ => False) w w') : SetC w' b mb ev cv room es ks cs n := M.kept k (fun _ _ h => h)
theorem SetC.b_ens (M : SetC w b mb ev cv room es ks cs n) : some b ≠ ev.ownBlock := own_blk_ne M.ens M.blk (by decide)
theorem SetC.b_chg (M : SetC w b mb ev cv room es ks cs n) : some b ≠ cv.ownBlock := own_blk_ne M.chg M.blk (by decide)
/-- A store into a field of the set. -/
theorem SetC.field {u : Value} {i : Nat} {es' : List (Int × Int)} {cs' : List ChD} {ev' cv' : Value} (M : SetC w b mb ev cv room es ks cs n)
    (he : w.ownsRow 0 150 2 ev' es'.length (entL es')) (hc : w.ownsRow 0 146 3 cv' cs'.length (chL cs'))
    (hu : (#[.int .i64 room, ev, .map (some mb), cv] : Array Value).setIfInBounds i u = #[.int .i64 room, ev', .map (some mb), cv']) :
    SetC (w.setCell ⟨b, i, none⟩ u) b mb ev' cv' room es' ks cs' n := by
  have K : Kept (fun k => k = b) w (w.setCell ⟨b, i, none⟩ u) := (Kept.refl _ w).setAt u
  refine ⟨?_, M.map.kept K (M.map.ne M.blk), K.own he ?_, K.own hc ?_⟩
  · rw [← hu]; exact M.blk.set_ i u
  · rintro x hx rfl
    exact own_blk_ne he M.blk (by decide) hx.symm
  · rintro x hx rfl
    exact own_blk_ne hc M.blk (by decide) hx.symm
/-- A change is noted. -/
theorem SetC.push_ch {c : ChD} {cv' : Value} (M : SetC w b mb ev cv room es ks cs n) (h1 : Kept (fun _ => False) w w1)
    (ho : w2.ownsRow 0 146 3 cv' (cs.length + 1) (chL cs ++ [.int .i64 (c.place : Int), .int .u64 c.was, .bool c.fresh])) (hg : w1.grownBy w2 cv.ownBlock) (ha : cv'.ownBlock = cv.ownBlock ∨ ∃ x, cv'.ownBlock = some x ∧ w.heap.size ≤ x) :
    SetC (w2.setCell ⟨b, 3, none⟩ cv') b mb ev cv' room es ks (cs ++ [c]) n ∧ Kept (Foot b mb ev cv) w (w2.setCell ⟨b, 3, none⟩ cv') ∧ ∀ x, Foot b mb ev cv' x → Foot b mb ev cv x ∨ w.heap.size ≤ x := by
  have M1 := M.keep h1
  have hm : IMap w2 mb n ks := M1.map.kept (Kept.grown hg) (M1.map.ne_own M1.chg)
  have hb : Blk w2 b 138 #[.int .i64 room, ev, .map (some mb), cv] := M1.blk.grown hg M1.b_chg
  have he : w2.ownsRow 0 150 2 ev es.length (entL es) := M1.ens.kept hg (own_ne M1.ens M1.chg (by decide))
  have hc : w2.ownsRow 0 146 3 cv' (cs ++ [c]).length (chL (cs ++ [c])) := by rw [chL_snoc, List.length_append]; exact ho
  have K : Kept (fun k => k = b) w2 (w2.setCell ⟨b, 3, none⟩ cv') := (Kept.refl _ w2).setAt cv'
  refine ⟨⟨hb.set_ 3 cv', hm.kept K (hm.ne hb), K.own he ?_, K.own hc ?_⟩, ?_, ?_⟩
  · rintro x hx rfl
    exact own_blk_ne he hb (by decide) hx.symm
  · rintro x hx rfl
    exact own_blk_ne hc hb (by decide) hx.symm
  · refine ((h1.mono (fun _ _ h => h.elim)).trans ((Kept.grown hg).mono (fun k _ h => ?_))).trans (K.mono (fun k _ h => .inl h))
    exact .inr (.inr (.inr h.symm))
  · rintro x (rfl | rfl | h | h)
    · exact .inl (.inl rfl)
    · exact .inl (.inr (.inl rfl))
    · exact .inl (.inr (.inr (.inl h)))
    · rcases ha with ha | ⟨y, hy, hl⟩
      · exact .inl (.inr (.inr (.inr (by rw [← ha]; exact h))))
      · rw [h] at hy
        obtain rfl := Option.some.inj hy
        exact .inr hl
/-- An entry is added. -/
theorem SetC.push_en {e : Int × Int} {ev' : Value} (M : SetC w b mb ev cv room es ks cs n) (h1 : Kept (fun _ => False) w w1)
    (ho : w2.ownsRow 0 150 2 ev' (es.length + 1) (entL es ++ [.int .i64 e.1, .int .u64 e.2])) (hg : w1.grownBy w2 ev.ownBlock) (ha : ev'.ownBlock = ev.ownBlock ∨ ∃ x, ev'.ownBlock = some x ∧ w.heap.size ≤ x) :
    SetC (w2.setCell ⟨b, 1, none⟩ ev') b mb ev' cv room (es ++ [e]) ks cs n ∧ Kept (Foot b mb ev cv) w (w2.setCell ⟨b, 1, none⟩ ev') ∧ ∀ x, Foot b mb ev' cv x → Foot b mb ev cv x ∨ w.heap.size ≤ x := by
  have M1 := M.keep h1
  have hm : IMap w2 mb n ks := M1.map.kept (Kept.grown hg) (M1.map.ne_own M1.ens)
  have hb : Blk w2 b 138 #[.int .i64 room, ev, .map (some mb), cv] := M1.blk.grown hg M1.b_ens
  have hc : w2.ownsRow 0 146 3 cv cs.length (chL cs) := M1.chg.kept hg (own_ne M1.chg M1.ens (by decide))
  have he : w2.ownsRow 0 150 2 ev' (es ++ [e]).length (entL (es ++ [e])) := by rw [entL_snoc, List.length_append]; exact ho
  have K : Kept (fun k => k = b) w2 (w2.setCell ⟨b, 1, none⟩ ev') := (Kept.refl _ w2).setAt ev'
  refine ⟨⟨hb.set_ 1 ev', hm.kept K (hm.ne hb), K.own he ?_, K.own hc ?_⟩, ?_, ?_⟩
  · rintro x hx rfl
    exact own_blk_ne he hb (by decide) hx.symm
  · rintro x hx rfl
    exact own_blk_ne hc hb (by decide) hx.symm
  · refine ((h1.mono (fun _ _ h => h.elim)).trans ((Kept.grown hg).mono (fun k _ h => ?_))).trans (K.mono (fun k _ h => .inl h))
    exact .inr (.inr (.inl h.symm))
  · rintro x (rfl | rfl | h | h)
    · exact .inl (.inl rfl)
    · exact .inl (.inr (.inl rfl))
    · rcases ha with ha | ⟨y, hy, hl⟩
      · exact .inl (.inr (.inr (.inl (by rw [← ha]; exact h))))
      · rw [h] at hy
        obtain rfl := Option.some.inj hy
        exact .inr hl
    · exact .inl (.inr (.inr (.inr h)))
/-- An entry is turned. -/
theorem SetC.turn {g c i : Nat} {a v v' : Int} (M : SetC w b mb (.slice (some ⟨g, 0, none⟩) es.length c) cv room es ks cs n) (hi : es[i]? = some (a, v)) :
    SetC (w.setCell ⟨g, i * 2 + 1, none⟩ (.int .u64 v')) b mb (.slice (some ⟨g, 0, none⟩) es.length c) cv room (es.set i (a, v')) ks cs n := by
  have K : Kept (fun k => k = g) w (w.setCell ⟨g, i * 2 + 1, none⟩ (.int .u64 v')) := (Kept.refl _ w).setAt _
  refine ⟨K.blk M.blk (fun h => M.b_ens (by rw [h]; rfl)), M.map.kept K (fun h => M.map.ne_own M.ens (by rw [h]; rfl)), ?_, K.own M.chg ?_⟩
  · rw [List.length_set, entL_set es i a v v' hi]
    exact (M.ens.stored (i * 2 + 1) _).1
  · rintro x hx rfl
    rcases own_ne M.chg M.ens (by decide) with h | h
    · rw [h] at hx; cases hx
    · exact h hx
/-- The table turns. -/
theorem SetC.table {ks' : List (Int × Int)} {n' : Nat} (M : SetC w b mb ev cv room es ks cs n) (k : Kept (fun k => k = mb) w w') (hm : IMap w' mb n' ks') : SetC w' b mb ev cv room es ks' cs n' := by
  refine ⟨k.blk M.blk (fun h => M.map.ne M.blk h.symm), hm, k.own M.ens ?_, k.own M.chg ?_⟩
  · rintro x hx rfl
    exact M.map.ne_own M.ens hx.symm
  · rintro x hx rfl
    exact M.map.ne_own M.chg hx.symm
end

/-- A set of room for 'room' into which ps was put. Its blocks lie in F. -/
def ISet (w : World) (b : Nat) (room : Int) (ps : List (Int × Int)) (n : Nat) (F : Nat → Prop) : Prop :=
  ∃ mb ev cv, SetC w b mb ev cv room (ents ps) (ents ps) (chs ps) n ∧ ∀ x, Foot b mb ev cv x → F x
section
variable {w w' : World} {b : Nat} {room : Int} {ps : List (Int × Int)} {n : Nat} {F G : Nat → Prop}
theorem ISet.mono (h : ISet w b room ps n F) (hs : ∀ x, x < w.heap.size → F x → G x) : ISet w b room ps n G := by
  obtain ⟨mb, ev, cv, M, hF⟩ := h
  exact ⟨mb, ev, cv, M, fun x hx => hs x (M.lt hx) (hF x hx)⟩
theorem ISet.kept {S : Nat → Prop} (h : ISet w b room ps n F) (k : Kept S w w') (hS : ∀ x, F x → ¬ S x) : ISet w' b room ps n F := by
  obtain ⟨mb, ev, cv, M, hF⟩ := h
  exact ⟨mb, ev, cv, M.kept k (fun x hx => hS x (hF x hx)), hF⟩
theorem ISet.keep (h : ISet w b room ps n F) (k : Kept (fun _ => False) w w') : ISet w' b room ps n F := h.kept k (fun _ _ h => h)
theorem ISet.more (h : ISet w b room ps n F) {n' : Nat} (hn : n ≤ n') : ISet w b room ps n' F := by
  obtain ⟨mb, ev, cv, M, hF⟩ := h
  exact ⟨mb, ev, cv, ⟨M.blk, M.map.more hn, M.ens, M.chg⟩, hF⟩
theorem ISet.b_lt (h : ISet w b room ps n F) : b < w.heap.size := by
  obtain ⟨mb, ev, cv, M, hF⟩ := h
  exact M.blk.lt
end
end Go.Proofs.Ythjkodjpopcjaaa
