/- Layer 8 (wset): what each write leaves of a set in memory. -/
import Derived.Test.YtebffkoonbkhnaaWsM
namespace Go.Proofs.Ytebffkoonbkhnaa
open Go.RowKit Go.Maps

theorem IMap.del {w' : World} {b n : Nat} {es : List (Int × Int)} {D : DataW Unit} (hm : IsMap D) (a v : Int) (hn : idx es a = none)
    (hD : ∀ x, Maps.has D (.int .i64 x) = (idx (es ++ [(a, v)]) x).isSome ∧ ∀ j, idx (es ++ [(a, v)]) x = some j → D.atKey (.int .i64 x) (.lit (.int .i64 0)) = .lit (.int .i64 j))
    (h : w'.ownsMap Try.prog 3 (plainElem Try.prog 3) b n (D.del (.int .i64 a))) : IMap w' b n es := by
  refine ⟨_, h, hm.del _, fun x => ?_⟩
  by_cases e : x = a
  · subst e
    rw [hn]
    exact ⟨has_del_same, fun j hj => by cases hj⟩
  · have ne : Lit.int .i64 x ≠ Lit.int .i64 a := fun h => e (by injection h)
    have hx : idx (es ++ [(a, v)]) x = idx es x := by rw [idx_snoc, if_neg (fun h => e h.symm), Option.or_none]
    have := hD x
    rw [hx] at this
    exact ⟨(has_del_other ne).trans this.1, fun j hj => (atKey_del_other ne _).trans (this.2 j hj)⟩

theorem Kept.trans' {S T : Nat → Prop} {a b w : World} (h : Kept S a b) (h' : Kept T b w) (hs : ∀ k, k < a.heap.size → T k → S k) : Kept S a w :=
  ⟨h'.os.trans h.os, h'.tape.trans h.tape, h'.output.trans h.output, Nat.le_trans h.size h'.size, fun k hk hn => (h'.block k (Nat.lt_of_lt_of_le hk h.size) (fun ht => hn (hs k hk ht))).trans (h.block k hk hn)⟩
theorem own_ne {w : World} {base base' : Nat} {e e' : TypeId} {size size' n n' : Nat} {v v' : Value} {xs xs' : List Value} (h : w.ownsRow base e size v n xs) (h' : w.ownsRow base' e' size' v' n' xs') (hne : e ≠ e') :
    v.ownBlock = none ∨ v.ownBlock ≠ v'.ownBlock := by
  rcases h.2 with ⟨rfl, _⟩ | ⟨g, cap, cur, rfl, _, hh, _⟩
  · exact .inl rfl
  · refine .inr fun e => ?_
    exact own_blk_ne h' (show Blk w g _ cur from hh) hne.symm e

/-- A set, in memory: its entries es, its changes cs; the table is of ks. -/
structure SetC (w : World) (b mb : Nat) (ev cv : Value) (room : Int) (es ks : List (Int × Int)) (cs : List ChD) (n : Nat) : Prop where
  blk : Blk w b 155 #[.int .i64 room, ev, .map (some mb), cv]
  map : IMap w mb n ks
  ens : w.ownsRow 0 128 2 ev es.length (entL es)
  chg : w.ownsRow 0 162 3 cv cs.length (chL cs)
def Foot (b mb : Nat) (ev cv : Value) (x : Nat) : Prop := x = b ∨ x = mb ∨ ev.ownBlock = some x ∨ cv.ownBlock = some x
section
variable {w w1 w2 w' : World} {b mb : Nat} {ev cv : Value} {room : Int} {es ks : List (Int × Int)} {cs : List ChD} {n : Nat}
theorem SetC.lt (M : SetC w b mb ev cv room es ks cs n) {x : Nat} (h : Foot b mb ev cv x) : x < w.heap.size := by
  rcases h with rfl | rfl | h | h
  · exact M.blk.lt
  · exact M.map.lt
  · exact (M.ens.lt x h).2
  · exact (M.chg.lt x h).2
theorem SetC.kept {S : Nat → Prop} (M : SetC w b mb ev cv room es ks cs n) (k : Kept S w w') (hS : ∀ x, Foot b mb ev cv x → ¬ S x) : SetC w' b mb ev cv room es ks cs n :=
  ⟨k.blk M.blk (hS _ (.inl rfl)), M.map.kept k (hS _ (.inr (.inl rfl))), k.own M.ens (fun x hx => hS x (.inr (.inr (.inl hx)))), k.own M.chg (fun x hx => hS x (.inr (.inr (.inr hx))))⟩
theorem SetC.keep (M : SetC w b mb ev cv room es ks cs n) (k : Kept (fun _ => False) w w') : SetC w' b mb ev cv room es ks cs n := M.kept k (fun _ _ h => h)
theorem SetC.b_ens (M : SetC w b mb ev cv room es ks cs n) : some b ≠ ev.ownBlock := own_blk_ne M.ens M.blk (by decide)
theorem SetC.b_chg (M : SetC w b mb ev cv room es ks cs n) : some b ≠ cv.ownBlock := own_blk_ne M.chg M.blk (by decide)
/-- A store into a field of the set. -/
theorem SetC.field {u : Value} {i : Nat} {es' : List (Int × Int)} {cs' : List ChD} {ev' cv' : Value} (M : SetC w b mb ev cv room es ks cs n)
    (he : w.ownsRow 0 128 2 ev' es'.length (entL es')) (hc : w.ownsRow 0 162 3 cv' cs'.length (chL cs'))
    (hu : (#[.int .i64 room, ev, .map (some mb), cv] : Array Value).setIfInBounds i u = #[.int .i64 room, ev', .map (some mb), cv']) :
    SetC (w.setCell ⟨b, i, none⟩ u) b mb ev' cv' room es' ks cs' n := by
  have K : Kept (fun k => k = b) w (w.setCell ⟨b, i, none⟩ u) := (Kept.refl _ w).setAt u
  refine ⟨?_, M.map.kept K (M.map.ne M.blk), K.own he ?_, K.own hc ?_⟩
  · rw [← hu]; exact M.blk.set_ i u
  · rintro x hx rfl
    exact own_blk_ne he M.blk (by decide) hx.symm
  · rintro x hx rfl
    exact own_blk_ne hc M.blk (by decide) hx.symm
/-- A change is noted. -/
theorem SetC.push_ch {c : ChD} {cv' : Value} (M : SetC w b mb ev cv room es ks cs n) (h1 : Kept (fun _ => False) w w1)
    (ho : w2.ownsRow 0 162 3 cv' (cs.length + 1) (chL cs ++ [.int .i64 (c.place : Int), .int .u64 c.was, .bool c.fresh])) (hg : w1.grownBy w2 cv.ownBlock) (ha : cv'.ownBlock = cv.ownBlock ∨ ∃ x, cv'.ownBlock = some x ∧ w.heap.size ≤ x) :
    SetC (w2.setCell ⟨b, 3, none⟩ cv') b mb ev cv' room es ks (cs ++ [c]) n ∧ Kept (Foot b mb ev cv) w (w2.setCell ⟨b, 3, none⟩ cv') ∧ ∀ x, Foot b mb ev cv' x → Foot b mb ev cv x ∨ w.heap.size ≤ x := by
  have M1 := M.keep h1
  have hm : IMap w2 mb n ks := M1.map.kept (Kept.grown hg) (M1.map.ne_own M1.chg)
  have hb : Blk w2 b 155 #[.int .i64 room, ev, .map (some mb), cv] := M1.blk.grown hg M1.b_chg
  have he : w2.ownsRow 0 128 2 ev es.length (entL es) := M1.ens.kept hg (own_ne M1.ens M1.chg (by decide))
  have hc : w2.ownsRow 0 162 3 cv' (cs ++ [c]).length (chL (cs ++ [c])) := by rw [chL_snoc, List.length_append]; exact ho
  have K : Kept (fun k => k = b) w2 (w2.setCell ⟨b, 3, none⟩ cv') := (Kept.refl _ w2).setAt cv'
  refine ⟨⟨hb.set_ 3 cv', hm.kept K (hm.ne hb), K.own he ?_, K.own hc ?_⟩, ?_, ?_⟩
  · rintro x hx rfl
    exact own_blk_ne he hb (by decide) hx.symm
  · rintro x hx rfl
    exact own_blk_ne hc hb (by decide) hx.symm
  · refine ((h1.mono (fun _ _ h => h.elim)).trans ((Kept.grown hg).mono (fun k _ h => ?_))).trans (K.mono (fun k _ h => .inl h))
    exact .inr (.inr (.inr h.symm))
  · rintro x (rfl | rfl | h | h)
    · exact .inl (.inl rfl)
    · exact .inl (.inr (.inl rfl))
    · exact .inl (.inr (.inr (.inl h)))
    · rcases ha with ha | ⟨y, hy, hl⟩
      · exact .inl (.inr (.inr (.inr (by rw [← ha]; exact h))))
      · rw [h] at hy
        obtain rfl := Option.some.inj hy
        exact .inr hl
/-- An entry is added. -/
theorem SetC.push_en {e : Int × Int} {ev' : Value} (M : SetC w b mb ev cv room es ks cs n) (h1 : Kept (fun _ => False) w w1)
    (ho : w2.ownsRow 0 128 2 ev' (es.length + 1) (entL es ++ [.int .i64 e.1, .int .u64 e.2])) (hg : w1.grownBy w2 ev.ownBlock) (ha : ev'.ownBlock = ev.ownBlock ∨ ∃ x, ev'.ownBlock = some x ∧ w.heap.size ≤ x) :
    SetC (w2.setCell ⟨b, 1, none⟩ ev') b mb ev' cv room (es ++ [e]) ks cs n ∧ Kept (Foot b mb ev cv) w (w2.setCell ⟨b, 1, none⟩ ev') ∧ ∀ x, Foot b mb ev' cv x → Foot b mb ev cv x ∨ w.heap.size ≤ x := by
  have M1 := M.keep h1
  have hm : IMap w2 mb n ks := M1.map.kept (Kept.grown hg) (M1.map.ne_own M1.ens)
  have hb : Blk w2 b 155 #[.int .i64 room, ev, .map (some mb), cv] := M1.blk.grown hg M1.b_ens
  have hc : w2.ownsRow 0 162 3 cv cs.length (chL cs) := M1.chg.kept hg (own_ne M1.chg M1.ens (by decide))
  have he : w2.ownsRow 0 128 2 ev' (es ++ [e]).length (entL (es ++ [e])) := by rw [entL_snoc, List.length_append]; exact ho
  have K : Kept (fun k => k = b) w2 (w2.setCell ⟨b, 1, none⟩ ev') := (Kept.refl _ w2).setAt ev'
  refine ⟨⟨hb.set_ 1 ev', hm.kept K (hm.ne hb), K.own he ?_, K.own hc ?_⟩, ?_, ?_⟩
  · rintro x hx rfl
    exact own_blk_ne he hb (by decide) hx.symm
  · rintro x hx rfl
    exact own_blk_ne hc hb (by decide) hx.symm
  · refine ((h1.mono (fun _ _ h => h.elim)).trans ((Kept.grown hg).mono (fun k _ h => ?_))).trans (K.mono (fun k _ h => .inl h))
    exact .inr (.inr (.inl h.symm))
  · rintro x (rfl | rfl | h | h)
    · exact .inl (.inl rfl)
    · exact .inl (.inr (.inl rfl))
    · rcases ha with ha | ⟨y, hy, hl⟩
      · exact .inl (.inr (.inr (.inl (by rw [← ha]; exact h))))
      · rw [h] at hy
        obtain rfl := Option.some.inj hy
        exact .inr hl
    · exact .inl (.inr (.inr (.inr h)))
/-- An entry is turned. -/
theorem SetC.turn {g c i : Nat} {a v v' : Int} (M : SetC w b mb (.slice (some ⟨g, 0, none⟩) es.length c) cv room es ks cs n) (hi : es[i]? = some (a, v)) :
    SetC (w.setCell ⟨g, i * 2 + 1, none⟩ (.int .u64 v')) b mb (.slice (some ⟨g, 0, none⟩) es.length c) cv room (es.set i (a, v')) ks cs n := by
  have K : Kept (fun k => k = g) w (w.setCell ⟨g, i * 2 + 1, none⟩ (.int .u64 v')) := (Kept.refl _ w).setAt _
  refine ⟨K.blk M.blk (fun h => M.b_ens (by rw [h]; rfl)), M.map.kept K (fun h => M.map.ne_own M.ens (by rw [h]; rfl)), ?_, K.own M.chg ?_⟩
  · rw [List.length_set, entL_set es i a v v' hi]
    exact (M.ens.stored (i * 2 + 1) _).1
  · rintro x hx rfl
    rcases own_ne M.chg M.ens (by decide) with h | h
    · rw [h] at hx; cases hx
    · exact h hx
/-- The table turns. -/
theorem SetC.table {ks' : List (Int × Int)} {n' : Nat} (M : SetC w b mb ev cv room es ks cs n) (k : Kept (fun k => k = mb) w w') (hm : IMap w' mb n' ks') : SetC w' b mb ev cv room es ks' cs n' := by
  refine ⟨k.blk M.blk (fun h => M.map.ne M.blk h.symm), hm, k.own M.ens ?_, k.own M.chg ?_⟩
  · rintro x hx rfl
    exact M.map.ne_own M.ens hx.symm
  · rintro x hx rfl
    exact M.map.ne_own M.chg hx.symm
end

/-- A set of room for 'room' into which ps was put. Its blocks lie in F. -/
def ISet (w : World) (b : Nat) (room : Int) (ps : List (Int × Int)) (n : Nat) (F : Nat → Prop) : Prop :=
  ∃ mb ev cv, SetC w b mb ev cv room (ents ps) (ents ps) (chs ps) n ∧ ∀ x, Foot b mb ev cv x → F x
section
variable {w w' : World} {b : Nat} {room : Int} {ps : List (Int × Int)} {n : Nat} {F G : Nat → Prop}
theorem ISet.mono (h : ISet w b room ps n F) (hs : ∀ x, x < w.heap.size → F x → G x) : ISet w b room ps n G := by
  obtain ⟨mb, ev, cv, M, hF⟩ := h
  exact ⟨mb, ev, cv, M, fun x hx => hs x (M.lt hx) (hF x hx)⟩
theorem ISet.kept {S : Nat → Prop} (h : ISet w b room ps n F) (k : Kept S w w') (hS : ∀ x, F x → ¬ S x) : ISet w' b room ps n F := by
  obtain ⟨mb, ev, cv, M, hF⟩ := h
  exact ⟨mb, ev, cv, M.kept k (fun x hx => hS x (hF x hx)), hF⟩
theorem ISet.keep (h : ISet w b room ps n F) (k : Kept (fun _ => False) w w') : ISet w' b room ps n F := h.kept k (fun _ _ h => h)
theorem ISet.more (h : ISet w b room ps n F) {n' : Nat} (hn : n ≤ n') : ISet w b room ps n' F := by
  obtain ⟨mb, ev, cv, M, hF⟩ := h
  exact ⟨mb, ev, cv, ⟨M.blk, M.map.more hn, M.ens, M.chg⟩, hF⟩
theorem ISet.b_lt (h : ISet w b room ps n F) : b < w.heap.size := by
  obtain ⟨mb, ev, cv, M, hF⟩ := h
  exact M.blk.lt
end
end Go.Proofs.Ytebffkoonbkhnaa
