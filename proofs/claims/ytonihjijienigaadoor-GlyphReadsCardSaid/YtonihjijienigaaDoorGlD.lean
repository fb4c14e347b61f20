/- Layer 2 (glyph): what a piece is read as. -/
import Derived.Test.YtonihjijienigaaDoorGlB
import Derived.Test.YtonihjijienigaaDoorShelf
import Derived.Lib.SmallJoins
import Derived.Lib.OthersKept
import Derived.Laws.Runes
import Derived.Laws.ResultCell
namespace Go.Proofs.YtonihjijienigaaDoor
open Go.RowKit

/-- A token's values. -/
structure Tok where
  kind : Int
  text : ByteArray
  num : Nat
  at_ : Int
  line : Int
def tokV (t : Tok) : Value := .agg #[.int .i64 t.kind, .string t.text, .int .u64 t.num, .int .i64 t.at_, .int .i64 t.line]
def tok0 : Tok := ⟨0, ⟨#[]⟩, 0, 0, 0⟩

/-- What the library's tables and errors hold. -/
structure LibV (w : World) : Prop where
  syn : ∃ tp p, w.var? Tryd.prog "strconv.ErrSyntax" = some #[.iface tp p]
  rng : ∃ tp p, w.var? Tryd.prog "strconv.ErrRange" = some #[.iface tp p]
  pow : Lib.TabIs Tryd.prog w "internal/strconv.uint64pow10" .u64 Lib.pow10Tab
theorem LibV.on {w w' : World} (h : LibV w) (hb : Below w.heap.size w w') : LibV w' where
  syn := by
    obtain ⟨tp, p, hv⟩ := h.syn
    exact ⟨tp, p, Joins.var_stays (g := 3) (by kernel_rfl) hv hb (Nat.le_refl _)⟩
  rng := by
    obtain ⟨tp, p, hv⟩ := h.rng
    exact ⟨tp, p, Joins.var_stays (g := 4) (by kernel_rfl) hv hb (Nat.le_refl _)⟩
  pow := Joins.var_stays (g := 2) (by kernel_rfl) h.pow hb (Nat.le_refl _)

/-- The twelve signs, one behind the other, and each of them. -/
def signsB : ByteArray := ⟨#[226, 134, 144, 43, 45, 195, 151, 37, 61, 60, 91, 93, 58, 36, 44]⟩
def sgL : List (List UInt8) := [[226, 134, 144], [43], [45], [195, 151], [37], [61], [60], [91], [93], [58], [36], [44]]
def sgAt (k : Nat) : ByteArray := ⟨(sgL.getD k []).toArray⟩
def sgOff (k : Nat) : Nat := [0, 3, 4, 5, 7, 8, 9, 10, 11, 12, 13, 14, 15].getD k 15
def sgRune (k : Nat) : Nat := [8592, 43, 45, 215, 37, 61, 60, 91, 93, 58, 36, 44].getD k 0
def isSign (p : ByteArray) : Bool := sgL.any fun l => decide ((⟨l.toArray⟩ : ByteArray) = p)

theorem results_row_tmp {P : Program} {fn : Func} {p u : Tmp} {ty : TypeId} (h : fn.results = #[.cell p ty, .tmp u]) (tmps : Array Value) (w : World) (g : Nat) (t : TypeId) (cs : Array Value) (fr : Nat × Nat) (d : TypeDesc)
    (hp : tmps.getD p undef = .pointer (some ⟨g, 0, none⟩)) (hg : w.heap[g]? = some (.cells cs t fr))
    (hu : P.underlying ty = some d) (hd : (match d with | .struct _ | .array _ _ => true | _ => false) = true) (hi : (P.info? ty).map (·.size) = some cs.size) :
    (results fn tmps).run P w = .ok (.tuple #[.agg cs, tmps.getD u undef]) w := by
  have hp' : tmps[p]?.getD undef = .pointer (some ⟨g, 0, none⟩) := by simpa using hp
  rw [results_cell_tmp h, hp]
  simp [asAddr, Result.andThen, run_loadVar_row w g t ty cs fr d hg hu hd hi]

theorem infoTok : (Tryd.prog.info? 39).map (·.size) = some 5 := by kernel_rfl
theorem heap_setRow (w : World) (g : Nat) (t : TypeId) (old cs : Array Value) (fr : Nat × Nat) (h : w.heap[g]? = some (.cells old t fr)) : (w.setRow g cs).heap[g]? = some (.cells cs t fr) := by
  simp [World.setRow, Array.getElem?_modify, h]
theorem below_setRow {B : Nat} {a w : World} (h : Below B a w) {g : Nat} (hg : B ≤ g) (cs : Array Value) : Below B a (w.setRow g cs) :=
  ⟨h.os, h.tape, h.output, by simpa [World.setRow] using h.size, fun k hk => by
    rw [← h.block k hk]
    simp [World.setRow, Array.getElem?_modify, show g ≠ k by omega]⟩
def tokC (t : Tok) : Array Value := #[.int .i64 t.kind, .string t.text, .int .u64 t.num, .int .i64 t.at_, .int .i64 t.line]
theorem wpList_store_tok {ops : Array Oper} {rest : List Oper} {o : Oper} {a : Act} {w : World} {Q : Exit → Act → World → Prop} (g : Nat) (old : Array Value) (t : Tok)
    (hg : w.heap[g]? = some (.cells old 39 (0, 0))) (ho : old.size = 5) (x y : Operand) (hop : o.op = .store 39 x y) (hgd : o.guard = none)
    (hx : a.eval x = .pointer (some ⟨g, 0, none⟩)) (hy : a.eval y = tokV t)
    (h : wpList Tryd.prog ops Q rest (a.put o.dst undef) (w.setRow g (tokC t))) : wpList Tryd.prog ops Q (o :: rest) a w :=
  wpList_store_row hgd _ x y hop g (tokC t) hx hy _ old hg infoTok ho (by simp [tokC, Value.oneCell']) h
theorem ret_tok {f : Func} {p u : Tmp} (h : f.results = #[.cell p 39, .tmp u]) (tmps : Array Value) (w : World) (g : Nat) (t : Tok)
    (hp : tmps.getD p undef = .pointer (some ⟨g, 0, none⟩)) (hg : w.heap[g]? = some (.cells (tokC t) 39 (0, 0))) :
    (results f tmps).run Tryd.prog w = .ok (.tuple #[tokV t, tmps.getD u undef]) w :=
  results_row_tmp h tmps w g _ (tokC t) _ _ hp hg Tryd.underlying39 rfl infoTok

set_option maxRecDepth 100000 in
theorem clone_calls (p : ByteArray) (w : World) (hs : p.size ≤ 70000) : Calls Tryd.prog 46 #[.string p] w fun e w' => e = .returned (.string p) ∧ Below w.heap.size w w' := by
  have HC := Lib.hid (fun W => Tryd.stringslite_Clone p W (by omega))
  go_enter Tryd.func46, Tryd.ntmps46
  go_wp2_with (go_at_call 55; refine (HC.out _).mono ?_; rintro e w' ⟨rfl, hb⟩)
  go_ret
  exact ⟨rfl, hb⟩

set_option maxRecDepth 100000 in
set_option maxHeartbeats 1000000 in
theorem readWord_calls (p : ByteArray) (w : World) (hs : p.size ≤ 70000) :
    Calls Tryd.prog 35 #[.string p] w fun e w' => e = .returned (.tuple #[tokV (if 24 < p.size then tok0 else ⟨0, p, 0, 0, 0⟩), .int .i64 (if 24 < p.size then 21 else 0)]) ∧ Below w.heap.size w w' := by
  have HC := Lib.hid (fun W => clone_calls p W hs)
  by_cases h : 24 < p.size
  · rw [if_pos h, if_pos h]
    go_enter Tryd.func35, Tryd.ntmps35
    go_wp2_with fail
    try simp only [Exit.inBlock, Exit.then]
    refine bodyPost_ret (ret_tok rfl _ _ _ tok0 rfl (heap_alloc_new _ _)) rfl ?_
    exact ⟨rfl, (Below.refl _ _).alloc (Nat.le_refl _) _⟩
  · rw [if_neg h, if_neg h]
    go_enter Tryd.func35, Tryd.ntmps35
    go_wp2_with (go_at_call 46; refine (HC.out _).mono ?_; rintro e w1 ⟨rfl, hb1⟩; refine Hid.out ?_)
    refine Lib.hid ?_
    have hg := (hb1.block w.heap.size (by simp)).trans (heap_alloc_new w _)
    have HG := Lib.hid hg
    clear hg
    go_wp2_with (refine wpList_store_tok w.heap.size _ ⟨0, p, 0, 0, 0⟩ HG.out rfl _ _ rfl rfl rfl rfl ?_)
    try simp only [Exit.inBlock, Exit.then]
    refine bodyPost_ret (ret_tok rfl _ _ _ ⟨0, p, 0, 0, 0⟩ rfl (heap_setRow _ _ _ _ _ _ HG.out)) rfl ?_
    exact ⟨rfl, below_setRow (((Below.refl _ w).alloc (Nat.le_refl _) _).trans (Joins.below_le hb1 (by simp))) (Nat.le_refl _) _⟩
end Go.Proofs.YtonihjijienigaaDoor
