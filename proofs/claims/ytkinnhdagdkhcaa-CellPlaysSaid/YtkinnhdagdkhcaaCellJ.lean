/- Layer 1 (cell): a memory made by a law: what holds of it from call to call; comparing cells. -/
import Derived.Test.YtkinnhdagdkhcaaCellI
import Derived.Deep.QuietTactic
import Derived.BigQuiet
namespace Go.Proofs.Ytkinnhdagdkhcaa
open Go.RowKit

def cellEq (x y : Int × Int) : Bool := decide (x.1 = y.1 ∧ x.2 = y.2)
theorem cellEq_iff (x y : Int × Int) : cellEq x y = true ↔ x = y := by
  simp [cellEq, Prod.ext_iff]
theorem cellEq_self (x : Int × Int) : cellEq x x = true := by simp [cellEq]
theorem cellEq_not {x y : Int × Int} (h : ¬ x = y) : cellEq x y = false := by
  rw [Bool.eq_false_iff]
  exact fun e => h ((cellEq_iff x y).1 e)
theorem run_cell_eql (W : World) (x y : Int × Int) : (binOp .eql 35 (.agg #[.int .u64 x.1, .int .u64 x.2]) (.agg #[.int .u64 y.1, .int .u64 y.2])).run Try.prog W = .ok (.bool (cellEq x y)) W := by
  by_cases h1 : x.1 = y.1 <;> by_cases h2 : x.2 = y.2 <;> simp [go_sem, cellEq, h1, h2]
theorem run_cell_neq (W : World) (x y : Int × Int) : (binOp .neq 35 (.agg #[.int .u64 x.1, .int .u64 x.2]) (.agg #[.int .u64 y.1, .int .u64 y.2])).run Try.prog W = .ok (.bool (!cellEq x y)) W := by
  by_cases h1 : x.1 = y.1 <;> by_cases h2 : x.2 = y.2 <;> simp [go_sem, cellEq, h1, h2]

/-- A memory that was made behind w0: it stands, and nothing that was there at w0 has turned. -/
structure Inv (w0 w : World) (b g cap : Nat) (ev : Value) (cs : List (Int × Int)) (E : List EvD) : Prop where
  mm : Mm w b g cap ev cs E
  kept : Kept (fun _ => False) w0 w
  hb : w0.heap.size ≤ b
  hg : w0.heap.size ≤ g
  he : ∀ x, ev.ownBlock = some x → w0.heap.size ≤ x

section
variable {w0 w w' : World} {b g cap : Nat} {ev : Value} {cs : List (Int × Int)} {E : List EvD}
theorem Inv.alloc (h : Inv w0 w b g cap ev cs E) (o : Obj) : Inv w0 (w.alloc o) b g cap ev cs E := ⟨h.mm.alloc o, h.kept.alloc o, h.hb, h.hg, h.he⟩
theorem Inv.drew (h : Inv w0 w b g cap ev cs E) : Inv w0 w.drew b g cap ev cs E := ⟨h.mm.kept (Kept.refl _ _).drew, h.kept.drew, h.hb, h.hg, h.he⟩
theorem Inv.drewN (h : Inv w0 w b g cap ev cs E) (n : Nat) : Inv w0 (w.drewN n) b g cap ev cs E := ⟨h.mm.kept ((Kept.refl _ _).drewN n), h.kept.drewN n, h.hb, h.hg, h.he⟩
theorem Inv.more (h : Inv w0 w b g cap ev cs E) (k : Kept (fun _ => False) w w') : Inv w0 w' b g cap ev cs E := ⟨h.mm.kept k, h.kept.trans k, h.hb, h.hg, h.he⟩
theorem Inv.below (h : Inv w0 w b g cap ev cs E) (k : Below w.heap.size w w') : Inv w0 w' b g cap ev cs E := h.more ((Kept.below k).mono (fun k hk h => by omega))
theorem Inv.old (h : Inv w0 w b g cap ev cs E) {G : Nat} {t : TypeId} {A : Array Value} (hb : Blk w0 G t A) : Blk w G t A := h.kept.blk hb (fun h => h)
theorem Inv.oldCell (h : Inv w0 w b g cap ev cs E) {p : Addr} {v : Value} (hb : w0.cell? p = some v) : w.cell? p = some v := h.kept.cell_some (fun h => h) hb
/-- A block other than the row, of a type that is neither the memory's nor an event's, stays. -/
theorem Inv.stays (h : Inv w0 w b g cap ev cs E) (hk : Kept (Foot b g ev) w w') {G : Nat} {t : TypeId} {A : Array Value} (hG : Blk w G t A) (h1 : t ≠ 65) (h2 : G ≠ g) (h3 : 57 ≠ t) : Blk w' G t A := by
  refine hk.blk hG ?_
  rintro (rfl | rfl | he)
  · exact hG.ne_ h.mm.blk h1 rfl
  · exact h2 rfl
  · exact own_blk_ne h.mm.evs hG h3 he.symm
theorem Inv.out (h : Inv w0 w b g cap ev cs E) (hk : Kept (Foot b g ev) w w') {G : Nat} {A : Array Value} (hG : Blk w G 41 A) : Blk w' G 41 A :=
  h.mm.far hk hG (by decide) (by decide) (by decide)

theorem do_inv (h : Inv w0 w b g cap ev cs E) (who k i : Int) (o n : Int × Int) (hm : E.length ≤ 1000) (r : Res) (hr : doStep cs E who k i o n = r) :
    Calls Try.prog 12 #[.pointer (some ⟨b, 0, none⟩), .int .i64 who, opV k i o n] w fun e w' => e = .returned (.tuple #[outV r.p r.ok, .int .i64 r.err]) ∧
      ∃ ev', Inv w0 w' b g cap ev' r.cs r.E ∧ Kept (Foot b g ev) w w' :=
  (do_calls w b g cap ev cs E h.mm who k i o n hm r hr).mono fun _ _ ⟨he, ev', hM, hk, hev⟩ => ⟨he, ev', ⟨hM, h.kept.foot hk h.hb h.hg h.he, h.hb, h.hg, fresh_next h.kept h.he hev⟩, hk⟩
theorem set_inv (h : Inv w0 w b g cap ev cs E) (i : Nat) (q : Int × Int) (hi : i < cs.length) :
    Calls Try.prog 18 #[.pointer (some ⟨b, 0, none⟩), .int .i64 (i : Int), cellV q] w fun e w' => e = .returned (.int .i64 0) ∧ Inv w0 w' b g cap ev (cs.set i q) E ∧ Kept (Foot b g ev) w w' :=
  (set_yes w b g cap ev cs _ _ _ h.mm i q hi).mono fun _ _ ⟨he, hM, hk⟩ =>
    have hk' : Kept (Foot b g ev) _ _ := hk.mono (fun _ _ h => .inr (.inl h))
    ⟨he, ⟨hM, h.kept.foot hk' h.hb h.hg h.he, h.hb, h.hg, h.he⟩, hk'⟩
theorem peek_inv (h : Inv w0 w b g cap ev cs E) (i : Nat) (p : Int × Int) (hp : cs[i]? = some p) :
    Calls Try.prog 14 #[.pointer (some ⟨b, 0, none⟩), .int .i64 (i : Int)] w fun e w' => e = .returned (.tuple #[cellV p, .bool true]) ∧ Inv w0 w' b g cap ev cs E ∧ Kept (fun _ => False) w w' :=
  (peek_at w b g cap ev cs _ _ _ h.mm i p hp).mono fun _ _ ⟨he, hb⟩ => ⟨he, h.below hb, (Kept.below hb).mono (fun k hk h => by omega)⟩
end

theorem new_inv (n : Nat) (hn : n ≤ 65536) (w : World) :
    Calls Try.prog 10 #[.int .i64 (n : Int)] w fun e w' => ∃ b g, e = .returned (.tuple #[.pointer (some ⟨b, 0, none⟩), .int .i64 0]) ∧ Inv w w' b g n (.slice none 0 0) (List.replicate n (0, 0)) [] :=
  (new_yes n hn w).mono fun _ _ ⟨he, hM, hk⟩ => ⟨_, _, he, hM, hk, by omega, by omega, by simp [Value.ownBlock]⟩

theorem clone_inv {w0 w : World} {b g cap : Nat} {ev : Value} {cs : List (Int × Int)} {E : List EvD} (h : Inv w0 w b g cap ev cs E) (hn : cs.length ≤ 65536) (hm : E.length ≤ 2000) :
    Calls Try.prog 20 #[.pointer (some ⟨b, 0, none⟩)] w fun e w' => ∃ b' g' cap' ev', e = .returned (.pointer (some ⟨b', 0, none⟩)) ∧ Inv w0 w' b g cap ev cs E ∧ Inv w w' b' g' cap' ev' cs E ∧ Kept (fun _ => False) w w' :=
  (clone_calls w b g cap ev cs _ E _ h.mm hn hm).mono fun _ _ ⟨b', g', cap', ev', he, hM, hk, h1, h2, h3⟩ => ⟨b', g', cap', ev', he, h.more hk, ⟨hM, hk, h1, h2, h3⟩, hk⟩

end Go.Proofs.Ytkinnhdagdkhcaa
