/- Layer 9 (view): a view in memory; New, Held, End, last, begin, Tell. -/
import Derived.Test.YtebffkoonbkhnaaLyV
namespace Go.Proofs.Ytebffkoonbkhnaa
open Go.RowKit
attribute [local go_sem ↓] loadMap_eq

structure VwD where
  who : Int
  seq : Int
  held : Int
  block : Int
  pos : Int
  next : Int
  val : Int
  st : Int
def vwA (c : CfgD) (v : VwD) : Array Value := #[.int .i64 c.t, .int .i64 c.b, .int .i64 c.wr, .int .i64 c.f, .int .u64 c.first, .int .u64 c.last,
  .int .i64 0, .int .i64 1, .int .i64 2, .int .i64 6, .int .i64 7, .int .i64 8, .int .i64 9, .int .i64 c.ans, .int .i64 (c.ans + 1), .int .i64 (c.ans + 2), .int .i64 c.root,
  .int .i64 c.life, .int .i64 c.top, .int .i64 c.stack, .int .i64 c.limp, .int .i64 c.limbo, .int .i64 c.word,
  .int .i64 v.who, .int .u64 v.seq, .int .i64 v.held, .int .i64 v.block, .int .i64 v.pos, .int .i64 v.next, .int .u64 v.val, .int .i64 v.st]
def VwS (w : World) (B : Nat) (c : CfgD) (v : VwD) : Prop := Blk w B 138 (vwA c v)
theorem VwS.map {w : World} {B : Nat} {c : CfgD} {v : VwD} (h : VwS w B c v) : (loadMap ⟨B, 0, none⟩).run Try.prog w = .ok (.agg (mapA c)) w :=
  run_loadVar_mid w B 0 31 (mapA c).toList _ (fun j u hu => by
    rw [Blk.cell h, ← hu, Nat.zero_add]
    match j with
    | 0 | 1 | 2 | 3 | 4 | 5 | 6 | 7 | 8 | 9 | 10 | 11 | 12 | 13 | 14 | 15 | 16 | 17 | 18 | 19 | 20 | 21 | 22 => rfl
    | n + 23 => simp [mapA] at hu) Try.underlying31 rfl (by kernel_rfl)

/-- What a view's cells are. -/
structure VwC (w : World) (B : Nat) (v : VwD) : Prop where
  who : w.cell? ⟨B, 23, none⟩ = some (.int .i64 v.who)
  seq : w.cell? ⟨B, 24, none⟩ = some (.int .u64 v.seq)
  held : w.cell? ⟨B, 25, none⟩ = some (.int .i64 v.held)
  block : w.cell? ⟨B, 26, none⟩ = some (.int .i64 v.block)
  pos : w.cell? ⟨B, 27, none⟩ = some (.int .i64 v.pos)
  next : w.cell? ⟨B, 28, none⟩ = some (.int .i64 v.next)
  val : w.cell? ⟨B, 29, none⟩ = some (.int .u64 v.val)
  st : w.cell? ⟨B, 30, none⟩ = some (.int .i64 v.st)
theorem VwS.cells {w : World} {B : Nat} {c : CfgD} {v : VwD} (h : VwS w B c v) : VwC w B v := ⟨h.cell 23, h.cell 24, h.cell 25, h.cell 26, h.cell 27, h.cell 28, h.cell 29, h.cell 30⟩
section
variable {w w' : World} {B : Nat} {c : CfgD} {v : VwD} {S : Nat → Prop}
theorem VwS.keep (h : VwS w B c v) (k : Kept (fun _ => False) w w') : VwS w' B c v := k.blk h (fun h => h)
theorem VwS.kept (h : VwS w B c v) (k : Kept S w w') (hs : ¬ S B) : VwS w' B c v := k.blk h hs
end
def VwD.last (v : VwD) : VwD := if v.pos = -1 then { v with st := 1 } else { v with next := 2, st := 0 }
def VwD.beg (v : VwD) (there : Bool) (block pos : Int) : VwD :=
  if v.st = 2 then v else if there = false then { v with block := block, pos := pos, val := 0, st := 3 }
  else if block = -1 ∨ block = v.held then ({ v with block := block, pos := pos, val := 0 } : VwD).last else { v with block := block, pos := pos, val := 0, next := 0, st := 0 }
def VwD.tell (v : VwD) (val seq : Int) : VwD :=
  if v.st ≠ 0 then v else if v.next = 0 then { v with held := -1, next := 1 } else if v.seq < seq then { v with st := 2 }
  else if v.next = 2 then { v with val := val, st := 1 } else if val ≠ 1 then { v with st := 3 } else ({ v with held := v.block } : VwD).last
/-- A view that turned, all else kept. -/
def VwT (w : World) (B : Nat) (c : CfgD) (v : VwD) (e : Ending) (w' : World) : Prop := e = .returned (.tuple #[]) ∧ VwS w' B c v ∧ Kept (fun k => k = B) w w'

set_option maxRecDepth 100000 in
set_option maxHeartbeats 1000000 in
theorem vwNew_calls (c : CfgD) (who seq : Int) (w : World) : Calls Try.prog 65 #[mapV c, .int .i64 who, .int .u64 seq] w fun e w' => ∃ B, e = .returned (.pointer (some ⟨B, 0, none⟩)) ∧ VwS w' B c ⟨who, seq, -1, 0, 0, 0, 0, 1⟩ ∧ Kept (fun _ => False) w w' ∧ w.heap.size ≤ B := by
  unfold mapV mapA
  have hl : (loadMap ⟨w.heap.size, 0, none⟩).run Try.prog (w.alloc (.cells #[.int .i64 c.t, .int .i64 c.b, .int .i64 c.wr, .int .i64 c.f, .int .u64 c.first, .int .u64 c.last, .int .i64 0, .int .i64 1, .int .i64 2, .int .i64 6, .int .i64 7, .int .i64 8, .int .i64 9, .int .i64 c.ans, .int .i64 (c.ans + 1), .int .i64 (c.ans + 2), .int .i64 c.root, .int .i64 c.life, .int .i64 c.top, .int .i64 c.stack, .int .i64 c.limp, .int .i64 c.limbo, .int .i64 c.word] 31)) = .ok (.agg #[.int .i64 c.t, .int .i64 c.b, .int .i64 c.wr, .int .i64 c.f, .int .u64 c.first, .int .u64 c.last, .int .i64 0, .int .i64 1, .int .i64 2, .int .i64 6, .int .i64 7, .int .i64 8, .int .i64 9, .int .i64 c.ans, .int .i64 (c.ans + 1), .int .i64 (c.ans + 2), .int .i64 c.root, .int .i64 c.life, .int .i64 c.top, .int .i64 c.stack, .int .i64 c.limp, .int .i64 c.limbo, .int .i64 c.word]) (w.alloc (.cells #[.int .i64 c.t, .int .i64 c.b, .int .i64 c.wr, .int .i64 c.f, .int .u64 c.first, .int .u64 c.last, .int .i64 0, .int .i64 1, .int .i64 2, .int .i64 6, .int .i64 7, .int .i64 8, .int .i64 9, .int .i64 c.ans, .int .i64 (c.ans + 1), .int .i64 (c.ans + 2), .int .i64 c.root, .int .i64 c.life, .int .i64 c.top, .int .i64 c.stack, .int .i64 c.limp, .int .i64 c.limbo, .int .i64 c.word] 31)) := loadMap_arr (Blk.new _ _ _) rfl
  go_enter Try.func65, Try.ntmps65
  go_wp2_with fail
  go_ret
  exact ⟨_, rfl, Blk.new' _ _ _ _ (by simp), ((Kept.refl _ _).alloc _).alloc _, by omega⟩

set_option maxHeartbeats 400000 in
theorem vwHeld_calls {w : World} {B : Nat} {c : CfgD} {v : VwD} (h : VwS w B c v) : Calls Try.prog 21 #[.pointer (some ⟨B, 0, none⟩)] w fun e w' => e = .returned (.int .i64 v.held) ∧ w = w' := by
  have c1 := h.cells.held
  go_enter Try.func21, Try.ntmps21
  go_wp2_with fail
  go_ret
  exact ⟨rfl, rfl⟩
set_option maxHeartbeats 400000 in
theorem vwEnd_calls {w : World} {B : Nat} {c : CfgD} {v : VwD} (h : VwS w B c v) : Calls Try.prog 19 #[.pointer (some ⟨B, 0, none⟩)] w fun e w' => e = .returned (.tuple #[.int .u64 v.val, .int .i64 v.st]) ∧ Kept (fun _ => False) w w' := by
  have c1 := h.cells.val
  have c2 := h.cells.st
  go_enter Try.func19, Try.ntmps19
  go_wp2_with fail
  go_quiet (fail)
  go_wp2_with fail
  go_ret2
  exact ⟨rfl, (Kept.refl _ _).drewN _⟩

set_option maxHeartbeats 1000000 in
theorem vwLast_calls {w : World} {B : Nat} {c : CfgD} {v : VwD} (h : VwS w B c v) : Calls Try.prog 73 #[.pointer (some ⟨B, 0, none⟩)] w (VwT w B c v.last) := by
  have c1 := h.cells.pos
  have f1 := Blk.frozen h 30
  have f2 := Blk.frozen h 28
  have c2 := h.cells.st
  have c3 := h.cells.next
  have HH := Lib.hid h
  clear h
  by_cases hp : v.pos = -1
  · have e : v.last = { v with st := 1 } := by unfold VwD.last; rw [if_pos hp]
    have HE := Lib.hid e
    rw [hp] at c1
    clear hp e
    go_enter Try.func73, Try.ntmps73
    go_wp2_with fail
    exact bodyPost_ret (v := .tuple #[]) (by simp [results, Try.results73, go_sem]) rfl ⟨rfl, by rw [HE.out]; exact HH.out.set_ 30 _, (Kept.refl _ w).setAt _⟩
  · have e : v.last = { v with next := 2, st := 0 } := by unfold VwD.last; rw [if_neg hp]
    have HE := Lib.hid e
    have hp' : (v.pos == -1) = false := by simpa using hp
    clear hp e
    go_enter Try.func73, Try.ntmps73
    go_wp2_with fail
    go_end0
    exact ⟨rfl, by rw [HE.out]; exact (HH.out.set_ 28 _).set_ 30 _, ((Kept.refl _ w).setAt _).setAt _⟩
end Go.Proofs.Ytebffkoonbkhnaa
