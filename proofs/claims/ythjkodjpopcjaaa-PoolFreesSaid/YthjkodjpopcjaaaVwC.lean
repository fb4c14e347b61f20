/- Layer 9 (view): a view in memory; New, Held, End, last, begin, Tell. -/
/- Layer 9 (view): begin, Tell. -/
/- Layer 9 (view): Ask, Cell, Word, Live. -/
import Derived.Test.YthjkodjpopcjaaaLyV
namespace Go.Proofs.Ythjkodjpopcjaaa
open Go.RowKit
attribute [local go_sem ↓] loadMap_eq

structure VwD where
  who : Int
  seq : Int
  held : Int
  block : Int
  pos : Int
  next : Int
  val : Int
  st : Int
def vwA (c : CfgD) (v : VwD) : Array Value := #[.int .i64 c.t, .int .i64 c.b, .int .i64 c.wr, .int .i64 c.f, .int .u64 c.first, .int .u64 c.last,
  .int .i64 0, .int .i64 1, .int .i64 2, .int .i64 6, .int .i64 7, .int .i64 8, .int .i64 9, .int .i64 c.ans, .int .i64 (c.ans + 1), .int .i64 (c.ans + 2), .int .i64 c.root,
  .int .i64 c.life, .int .i64 c.top, .int .i64 c.stack, .int .i64 c.limp, .int .i64 c.limbo, .int .i64 c.word,
  .int .i64 v.who, .int .u64 v.seq, .int .i64 v.held, .int .i64 v.block, .int .i64 v.pos, .int .i64 v.next, .int .u64 v.val, .int .i64 v.st]
def VwS (w : World) (B : Nat) (c : CfgD) (v : VwD) : Prop := Blk w B 121 (vwA c v)
theorem VwS.map {w : World} {B : Nat} {c : CfgD} {v : VwD} (h : VwS w B c v) : (loadMap ⟨B, 0, none⟩).run Try.prog w = .ok (.agg (mapA c)) w :=
  run_loadVar_mid w B 0 31 (mapA c).toList _ (fun j u hu => by
    rw [Blk.cell h, ← hu, Nat.zero_add]
    match j with
    | 0 | 1 | 2 | 3 | 4 | 5 | 6 | 7 | 8 | 9 | 10 | 11 | 12 | 13 | 14 | 15 | 16 | 17 | 18 | 19 | 20 | 21 | 22 => rfl
    | n + 23 => simp [mapA] at hu) Try.underlying31 rfl (by kernel_rfl)

/-- What a view's cells are. -/
structure VwC (w : World) (B : Nat) (v : VwD) : Prop where
  who : w.cell? ⟨B, 23, none⟩ = some (.int .i64 v.who)
  seq : w.cell? ⟨B, 24, none⟩ = some (.int .u64 v.seq)
  held : w.cell? ⟨B, 25, none⟩ = some (.int .i64 v.held)
  block : w.cell? ⟨B, 26, none⟩ = some (.int .i64 v.block)
  pos : w.cell? ⟨B, 27, none⟩ = some (.int .i64 v.pos)
  next : w.cell? ⟨B, 28, none⟩ = some (.int .i64 v.next)
  val : w.cell? ⟨B, 29, none⟩ = some (.int .u64 v.val)
  st : w.cell? ⟨B, 30, none⟩ = some (.int .i64 v.st)
theorem VwS.cells {w : World} {B : Nat} {c : CfgD} {v : VwD} (h : VwS w B c v) : VwC w B v := ⟨h.cell 23, h.cell 24, h.cell 25, h.cell 26, h.cell 27, h.cell 28, h.cell 29, h.cell 30⟩
section
variable {w w' : World} {B : Nat} {c : CfgD} {v : VwD} {S : Nat → Prop}
theorem VwS.keep (h : VwS w B c v) (k : Kept (fun _ => False) w w') : VwS w' B c v := k.blk h (fun h => h)
theorem VwS.kept (h : VwS w B c v) (k : Kept S w w') (hs : ¬ S B) : VwS w' B c v := k.blk h hs
end
def VwD.last (v : VwD) : VwD := if v.pos = -1 then { v with st := 1 } else { v with next := 2, st := 0 }
def VwD.beg (v : VwD) (there : Bool) (block pos : Int) : VwD :=
  if v.st = 2 then v else if there = false then { v with block := block, pos := pos, val := 0, st := 3 }
  else if block = -1 ∨ block = v.held then ({ v with block := block, pos := pos, val := 0 } : VwD).last else { v with block := block, pos := pos, val := 0, next := 0, st := 0 }
def VwD.tell (v : VwD) (val seq : Int) : VwD :=
  if v.st ≠ 0 then v else if v.next = 0 then { v with held := -1, next := 1 } else if v.seq < seq then { v with st := 2 }
  else if v.next = 2 then { v with val := val, st := 1 } else if val ≠ 1 then { v with st := 3 } else ({ v with held := v.block } : VwD).last
/-- A view that turned, all else kept. -/
def VwT (w : World) (B : Nat) (c : CfgD) (v : VwD) (e : Ending) (w' : World) : Prop := e = .returned (.tuple #[]) ∧ VwS w' B c v ∧ Kept (fun k => k = B) w w'

set_option maxRecDepth 100000 in
set_option maxHeartbeats 1000000 in
theorem vwNew_calls (c : CfgD) (who seq : Int) (w : World) : Calls Try.prog 54 #[mapV c, .int .i64 who, .int .u64 seq] w fun e w' => ∃ B, e = .returned (.pointer (some ⟨B, 0, none⟩)) ∧ VwS w' B c ⟨who, seq, -1, 0, 0, 0, 0, 1⟩ ∧ Kept (fun _ => False) w w' ∧ w.heap.size ≤ B := by
  unfold mapV mapA
  have hl : (loadMap ⟨w.heap.size, 0, none⟩).run Try.prog (w.alloc (.cells #[.int .i64 c.t, .int .i64 c.b, .int .i64 c.wr, .int .i64 c.f, .int .u64 c.first, .int .u64 c.last, .int .i64 0, .int .i64 1, .int .i64 2, .int .i64 6, .int .i64 7, .int .i64 8, .int .i64 9, .int .i64 c.ans, .int .i64 (c.ans + 1), .int .i64 (c.ans + 2), .int .i64 c.root, .int .i64 c.life, .int .i64 c.top, .int .i64 c.stack, .int .i64 c.limp, .int .i64 c.limbo, .int .i64 c.word] 31)) = .ok (.agg #[.int .i64 c.t, .int .i64 c.b, .int .i64 c.wr, .int .i64 c.f, .int .u64 c.first, .int .u64 c.last, .int .i64 0, .int .i64 1, .int .i64 2, .int .i64 6, .int .i64 7, .int .i64 8, .int .i64 9, .int .i64 c.ans, .int .i64 (c.ans + 1), .int .i64 (c.ans + 2), .int .i64 c.root, .int .i64 c.life, .int .i64 c.top, .int .i64 c.stack, .int .i64 c.limp, .int .i64 c.limbo, .int .i64 c.word]) (w.alloc (.cells #[.int .i64 c.t, .int .i64 c.b, .int .i64 c.wr, .int .i64 c.f, .int .u64 c.first, .int .u64 c.last, .int .i64 0, .int .i64 1, .int .i64 2, .int .i64 6, .int .i64 7, .int .i64 8, .int .i64 9, .int .i64 c.ans, .int .i64 (c.ans + 1), .int .i64 (c.ans + 2), .int .i64 c.root, .int .i64 c.life, .int .i64 c.top, .int .i64 c.stack, .int .i64 c.limp, .int .i64 c.limbo, .int .i64 c.word] 31)) := loadMap_arr (Blk.new _ _ _) rfl
  go_enter Try.func54, Try.ntmps54
  go_wp2_with fail
  go_ret
  exact ⟨_, rfl, Blk.new' _ _ _ _ (by simp), ((Kept.refl _ _).alloc _).alloc _, by omega⟩

set_option maxHeartbeats 400000 in
theorem vwHeld_calls {w : World} {B : Nat} {c : CfgD} {v : VwD} (h : VwS w B c v) : Calls Try.prog 17 #[.pointer (some ⟨B, 0, none⟩)] w fun e w' => e = .returned (.int .i64 v.held) ∧ w = w' := by
  have c1 := h.cells.held
  go_enter Try.func17, Try.ntmps17
  go_wp2_with fail
  go_ret
  exact ⟨rfl, rfl⟩
set_option maxHeartbeats 400000 in
theorem vwEnd_calls {w : World} {B : Nat} {c : CfgD} {v : VwD} (h : VwS w B c v) : Calls Try.prog 15 #[.pointer (some ⟨B, 0, none⟩)] w fun e w' => e = .returned (.tuple #[.int .u64 v.val, .int .i64 v.st]) ∧ Kept (fun _ => False) w w' := by
  have c1 := h.cells.val
  have c2 := h.cells.st
  go_enter Try.func15, Try.ntmps15
  go_wp2_with fail
  go_quiet (fail)
  go_wp2_with fail
  go_ret2
  exact ⟨rfl, (Kept.refl _ _).drewN _⟩

set_option maxHeartbeats 1000000 in
theorem vwLast_calls {w : World} {B : Nat} {c : CfgD} {v : VwD} (h : VwS w B c v) : Calls Try.prog 63 #[.pointer (some ⟨B, 0, none⟩)] w (VwT w B c v.last) := by
  have c1 := h.cells.pos
  have f1 := Blk.frozen h 30
  have f2 := Blk.frozen h 28
  have c2 := h.cells.st
  have c3 := h.cells.next
  have HH := Lib.hid h
  clear h
  by_cases hp : v.pos = -1
  · have e : v.last = { v with st := 1 } := by unfold VwD.last; rw [if_pos hp]
    have HE := Lib.hid e
    rw [hp] at c1
    clear hp e
    go_enter Try.func63, Try.ntmps63
    go_wp2_with fail
    exact bodyPost_ret (v := .tuple #[]) (by simp [results, Try.results63, go_sem]) rfl ⟨rfl, by rw [HE.out]; exact HH.out.set_ 30 _, (Kept.refl _ w).setAt _⟩
  · have e : v.last = { v with next := 2, st := 0 } := by unfold VwD.last; rw [if_neg hp]
    have HE := Lib.hid e
    have hp' : (v.pos == -1) = false := by simpa using hp
    clear hp e
    go_enter Try.func63, Try.ntmps63
    go_wp2_with fail
    go_end0
    exact ⟨rfl, by rw [HE.out]; exact (HH.out.set_ 28 _).set_ 30 _, ((Kept.refl _ w).setAt _).setAt _⟩
end Go.Proofs.Ythjkodjpopcjaaa

namespace Go.Proofs.Ythjkodjpopcjaaa
open Go.RowKit
attribute [local go_sem ↓] loadMap_eq

theorem VwT.mk {w w' : World} {B : Nat} {c : CfgD} {v : VwD} {e : Ending} (h1 : e = .returned (.tuple #[])) (h2 : VwS w' B c v) (h3 : Kept (fun k => k = B) w w') : VwT w B c v e w' := ⟨h1, h2, h3⟩
set_option maxRecDepth 100000 in
set_option maxHeartbeats 2000000 in
theorem vwBegin_calls {w : World} {B : Nat} {c : CfgD} {v : VwD} (h : VwS w B c v) (there : Bool) (block pos : Int) :
    Calls Try.prog 83 #[.pointer (some ⟨B, 0, none⟩), .bool there, .int .i64 block, .int .i64 pos] w (VwT w B c (v.beg there block pos)) := by
  obtain ⟨c1, c2, c3, c4, c5, c6, c7, c8⟩ := h.cells
  have f26 := Blk.frozen h 26
  have f27 := Blk.frozen h 27
  have f28 := Blk.frozen h 28
  have f29 := Blk.frozen h 29
  have f30 := Blk.frozen h 30
  have HH := Lib.hid h
  clear h
  by_cases h2 : v.st = 2
  · have HE : Hid (v.beg there block pos = v) := Lib.hid (by unfold VwD.beg; rw [if_pos h2])
    rw [h2] at c8
    clear h2
    go_enter Try.func83, Try.ntmps83
    go_wp2_with fail
    exact bodyPost_ret (v := .tuple #[]) (by simp [results, Try.results83, go_sem]) rfl (VwT.mk rfl (by rw [HE.out]; exact HH.out) (Kept.refl _ w))
  have h2' : (v.st == 2) = false := by simpa using h2
  cases there with
  | false =>
    have HE : Hid (v.beg false block pos = { v with block := block, pos := pos, val := 0, st := 3 }) := Lib.hid (by unfold VwD.beg; rw [if_neg h2, if_pos rfl])
    clear h2
    go_enter Try.func83, Try.ntmps83
    go_wp2_with fail
    go_end0
    exact VwT.mk rfl (by rw [HE.out]; exact (((HH.out.set_ 26 _).set_ 27 _).set_ 29 _).set_ 30 _) (((((Kept.refl _ w).setAt _).setAt _).setAt _).setAt _)
  | true =>
    by_cases hb : block = -1
    · have HE : Hid (v.beg true block pos = ({ v with block := block, pos := pos, val := 0 } : VwD).last) := Lib.hid (by unfold VwD.beg; rw [if_neg h2, if_neg (by simp), if_pos (.inl hb)])
      clear h2
      subst hb
      have HB : Hid (VwS (((w.setCell ⟨B, 26, none⟩ (.int .i64 (-1))).setCell ⟨B, 27, none⟩ (.int .i64 pos)).setCell ⟨B, 29, none⟩ (.int .u64 0)) B c { v with block := -1, pos := pos, val := 0 }) := Lib.hid (((HH.out.set_ 26 _).set_ 27 _).set_ 29 _)
      go_enter Try.func83, Try.ntmps83
      go_wp2_with (go_at_call 63; (with_reducible refine (vwLast_calls HB.out).mono ?_); rintro e w1 ⟨rfl, h1, hk⟩)
      go_end0
      exact VwT.mk rfl (by rw [HE.out]; exact h1) (((((Kept.refl _ w).setAt _).setAt _).setAt _).trans hk)
    · have hb' : (block == -1) = false := by simpa using hb
      by_cases hd : block = v.held
      · have HE : Hid (v.beg true block pos = ({ v with block := block, pos := pos, val := 0 } : VwD).last) := Lib.hid (by unfold VwD.beg; rw [if_neg h2, if_neg (by simp), if_pos (.inr hd)])
        have hd' : (block == v.held) = true := by simpa using hd
        clear h2 hd hb
        have HB : Hid (VwS (((w.setCell ⟨B, 26, none⟩ (.int .i64 block)).setCell ⟨B, 27, none⟩ (.int .i64 pos)).setCell ⟨B, 29, none⟩ (.int .u64 0)) B c { v with block := block, pos := pos, val := 0 }) := Lib.hid (((HH.out.set_ 26 _).set_ 27 _).set_ 29 _)
        go_enter Try.func83, Try.ntmps83
        go_wp2_with (go_at_call 63; (with_reducible refine (vwLast_calls HB.out).mono ?_); rintro e w1 ⟨rfl, h1, hk⟩)
        go_end0
        exact VwT.mk rfl (by rw [HE.out]; exact h1) (((((Kept.refl _ w).setAt _).setAt _).setAt _).trans hk)
      · have HE : Hid (v.beg true block pos = { v with block := block, pos := pos, val := 0, next := 0, st := 0 }) := Lib.hid (by unfold VwD.beg; rw [if_neg h2, if_neg (by simp), if_neg (by simp [hb, hd])])
        have hd' : (block == v.held) = false := by simpa using hd
        clear h2 hd hb
        go_enter Try.func83, Try.ntmps83
        go_wp2_with fail
        go_end0
        exact VwT.mk rfl (by rw [HE.out]; exact ((((HH.out.set_ 26 _).set_ 27 _).set_ 29 _).set_ 28 _).set_ 30 _) ((((((Kept.refl _ w).setAt _).setAt _).setAt _).setAt _).setAt _)

/-- An answer. -/
def outV (val seq : Int) (ok : Bool) : Value := .agg #[.int .u64 val, .int .u64 seq, .bool ok]
set_option maxRecDepth 100000 in
set_option maxHeartbeats 2000000 in
theorem vwTell_calls {w : World} {B : Nat} {c : CfgD} {v : VwD} (h : VwS w B c v) (val seq : Int) (ok : Bool) :
    Calls Try.prog 16 #[.pointer (some ⟨B, 0, none⟩), outV val seq ok] w (VwT w B c (v.tell val seq)) := by
  have hA : VwS (w.alloc (.cells #[.int .u64 val, .int .u64 seq, .bool ok] 55)) B c v := Blk.alloc h _
  obtain ⟨c1, c2, c3, c4, c5, c6, c7, c8⟩ := hA.cells
  have f25 := Blk.frozen hA 25
  have f28 := Blk.frozen hA 28
  have f29 := Blk.frozen hA 29
  have f30 := Blk.frozen hA 30
  have HH := Lib.hid hA
  have HK : Hid (Kept (fun k => k = B) w (w.alloc (.cells #[.int .u64 val, .int .u64 seq, .bool ok] 55))) := Lib.hid ((Kept.refl _ w).alloc _)
  clear h hA
  unfold outV
  by_cases h0 : v.st = 0
  · rw [h0] at c8
    by_cases hn : v.next = 0
    · have HE : Hid (v.tell val seq = { v with held := -1, next := 1 }) := Lib.hid (by unfold VwD.tell; rw [if_neg (by simp [h0]), if_pos hn])
      rw [hn] at c6
      clear h0 hn
      go_enter Try.func16, Try.ntmps16
      go_wp2_with fail
      go_end0
      exact VwT.mk rfl (by rw [HE.out]; exact (HH.out.set_ 25 _).set_ 28 _) ((HK.out.setAt _).setAt _)
    have hn' : (v.next == 0) = false := by simpa using hn
    by_cases hs : v.seq < seq
    · have HE : Hid (v.tell val seq = { v with st := 2 }) := Lib.hid (by unfold VwD.tell; rw [if_neg (by simp [h0]), if_neg hn, if_pos hs])
      clear h0 hn
      go_enter Try.func16, Try.ntmps16
      go_wp2_with fail
      go_quiet (fail)
      go_wp2_with fail
      go_end0
      exact VwT.mk rfl (by rw [HE.out]; exact ((HH.out.drewN nq).set_ 30 _)) ((HK.out.drewN nq).setAt _)
    by_cases h2 : v.next = 2
    · have HE : Hid (v.tell val seq = { v with val := val, st := 1 }) := Lib.hid (by unfold VwD.tell; rw [if_neg (by simp [h0]), if_neg hn, if_neg hs, if_pos h2])
      rw [h2] at c6
      clear h0 hn h2
      go_enter Try.func16, Try.ntmps16
      go_wp2_with fail
      go_quiet (fail)
      go_wp2_with fail
      go_end0
      exact VwT.mk rfl (by rw [HE.out]; exact ((HH.out.drewN nq).set_ 29 _).set_ 30 _) (((HK.out.drewN nq).setAt _).setAt _)
    have h2' : (v.next == 2) = false := by simpa using h2
    by_cases hv : val = 1
    · subst hv
      have HE : Hid (v.tell 1 seq = ({ v with held := v.block } : VwD).last) := Lib.hid (by unfold VwD.tell; rw [if_neg (by simp [h0]), if_neg hn, if_neg hs, if_neg h2, if_neg (by simp)])
      have HB' : ∀ nq, VwS (((w.alloc (.cells #[.int .u64 1, .int .u64 seq, .bool ok] 55)).drewN nq).setCell ⟨B, 25, none⟩ (.int .i64 v.block)) B c { v with held := v.block } := fun nq => (HH.out.drewN nq).set_ 25 _
      clear h0 hn h2
      go_enter Try.func16, Try.ntmps16
      go_wp2_with fail
      go_quiet (fail)
      go_wp2_with (go_at_call 63; (with_reducible refine (vwLast_calls (HB' nq)).mono ?_); rintro e w1 ⟨rfl, h1, hk⟩)
      go_end0
      exact VwT.mk rfl (by rw [HE.out]; exact h1) (((HK.out.drewN nq).setAt _).trans hk)
    · have HE : Hid (v.tell val seq = { v with st := 3 }) := Lib.hid (by unfold VwD.tell; rw [if_neg (by simp [h0]), if_neg hn, if_neg hs, if_neg h2, if_pos hv])
      have hv' : (val == 1) = false := by simpa using hv
      clear h0 hn h2 hv
      go_enter Try.func16, Try.ntmps16
      go_wp2_with fail
      go_quiet (fail)
      go_wp2_with fail
      go_end0
      exact VwT.mk rfl (by rw [HE.out]; exact ((HH.out.drewN nq).set_ 30 _)) ((HK.out.drewN nq).setAt _)
  · have HE : Hid (v.tell val seq = v) := Lib.hid (by unfold VwD.tell; rw [if_pos h0])
    have h0' : (v.st == 0) = false := by simpa using h0
    clear h0
    go_enter Try.func16, Try.ntmps16
    go_wp2_with fail
    go_end0
    exact VwT.mk rfl (by rw [HE.out]; exact HH.out) HK.out
end Go.Proofs.Ythjkodjpopcjaaa

namespace Go.Proofs.Ythjkodjpopcjaaa
open Go.RowKit
attribute [local go_sem ↓] loadMap_eq

/-- A step, as data. -/
structure StpD where
  kind : Int
  pos : Int
  ov : Int
  os : Int
  nv : Int
  ns : Int
deriving DecidableEq
def stpV (o : StpD) : Value := .agg #[.int .i64 o.kind, .int .i64 o.pos, .int .u64 o.ov, .int .u64 o.os, .int .u64 o.nv, .int .u64 o.ns]
def noOp : StpD := ⟨0, 0, 0, 0, 0, 0⟩
def ldOp (p : Int) : StpD := ⟨0, p, 0, 0, 0, 0⟩
/-- The step that a view asks for. -/
def VwD.ask (c : CfgD) (v : VwD) : StpD × Bool :=
  if v.st ≠ 0 then (noOp, false) else if v.next = 0 then (⟨1, c.at_ 3 v.who 0, 0, 0, v.block + 1, 0⟩, true)
  else if v.next = 1 then (ldOp (c.at_ 11 v.block 0), true) else (ldOp v.pos, true)
def askV (a : StpD × Bool) : Value := .tuple #[stpV a.1, .bool a.2]

theorem VwS.three {w : World} {B : Nat} {c : CfgD} {v : VwD} (h : VwS w B c v) : (loadMap ⟨B, 0, none⟩).run Try.prog w = .ok (.agg (mapA c)) w ∧ w.cell? ⟨B, 23, none⟩ = some (.int .i64 v.who) ∧ w.cell? ⟨B, 26, none⟩ = some (.int .i64 v.block) := ⟨h.map, h.cells.who, h.cells.block⟩
theorem VwS.six {w : World} {B g : Nat} {c : CfgD} {v : VwD} (h : VwS w B c v) (hn : B ≠ g) (u0 u1 u2 u3 u4 u5 : Value) :
    VwS ((((((w.setCell ⟨g, 0, none⟩ u0).setCell ⟨g, 1, none⟩ u1).setCell ⟨g, 2, none⟩ u2).setCell ⟨g, 3, none⟩ u3).setCell ⟨g, 4, none⟩ u4).setCell ⟨g, 5, none⟩ u5) B c v :=
  (((((Blk.far h hn u0).far hn u1).far hn u2).far hn u3).far hn u4).far hn u5
theorem Blk.six {w : World} {g : Nat} {t : TypeId} {a0 a1 a2 a3 a4 a5 : Value} (h : Blk w g t #[a0, a1, a2, a3, a4, a5]) (u0 u1 u2 u3 u4 u5 : Value) :
    Blk ((((((w.setCell ⟨g, 0, none⟩ u0).setCell ⟨g, 1, none⟩ u1).setCell ⟨g, 2, none⟩ u2).setCell ⟨g, 3, none⟩ u3).setCell ⟨g, 4, none⟩ u4).setCell ⟨g, 5, none⟩ u5) g t #[u0, u1, u2, u3, u4, u5] :=
  (((((h.set_ 0 u0).set_ 1 u1).set_ 2 u2).set_ 3 u3).set_ 4 u4).set_ 5 u5
theorem Kept.six {S : Nat → Prop} {a w : World} {g : Nat} (h : Kept S a w) (hg : a.heap.size ≤ g) (u0 u1 u2 u3 u4 u5 : Value) :
    Kept S a ((((((w.setCell ⟨g, 0, none⟩ u0).setCell ⟨g, 1, none⟩ u1).setCell ⟨g, 2, none⟩ u2).setCell ⟨g, 3, none⟩ u3).setCell ⟨g, 4, none⟩ u4).setCell ⟨g, 5, none⟩ u5) :=
  (((((h.setCell (p := ⟨g, 0, none⟩) (.inr hg) u0).setCell (p := ⟨g, 1, none⟩) (.inr hg) u1).setCell (p := ⟨g, 2, none⟩) (.inr hg) u2).setCell (p := ⟨g, 3, none⟩) (.inr hg) u3).setCell (p := ⟨g, 4, none⟩) (.inr hg) u4).setCell (p := ⟨g, 5, none⟩) (.inr hg) u5

set_option maxRecDepth 100000 in
set_option maxHeartbeats 2000000 in
theorem vwAsk_calls {w : World} {B : Nat} {c : CfgD} {v : VwD} (h : VwS w B c v) (hc : c.Bd) (hb : v.st = 0 → v.next = 0 → 0 ≤ v.block ∧ v.block < 64) :
    Calls Try.prog 13 #[.pointer (some ⟨B, 0, none⟩)] w fun e w' => e = .returned (askV (v.ask c)) ∧ Kept (fun _ => False) w w' := by
  have hA : VwS (w.alloc (.cells #[.int .i64 0, .int .i64 0, .int .u64 0, .int .u64 0, .int .u64 0, .int .u64 0] 43)) B c v := Blk.alloc h _
  obtain ⟨c1, c2, c3, c4, c5, c6, c7, c8⟩ := hA.cells
  have hl := hA.map
  have HH := Lib.hid hA
  have HC := Lib.hid hc
  have HR : Hid (Blk (w.alloc (.cells #[.int .i64 0, .int .i64 0, .int .u64 0, .int .u64 0, .int .u64 0, .int .u64 0] 43)) w.heap.size 43 #[.int .i64 0, .int .i64 0, .int .u64 0, .int .u64 0, .int .u64 0, .int .u64 0]) := Lib.hid (Blk.new _ _ _)
  have HN : Hid (B ≠ w.heap.size) := Lib.hid (by have := Blk.lt h; omega)
  have S0 : Hid ((loadMap ⟨B, 0, none⟩).run Try.prog (w.alloc (.cells #[.int .i64 0, .int .i64 0, .int .u64 0, .int .u64 0, .int .u64 0, .int .u64 0] 43)).drew = .ok (.agg (mapA c)) (w.alloc (.cells #[.int .i64 0, .int .i64 0, .int .u64 0, .int .u64 0, .int .u64 0, .int .u64 0] 43)).drew ∧ (w.alloc (.cells #[.int .i64 0, .int .i64 0, .int .u64 0, .int .u64 0, .int .u64 0, .int .u64 0] 43)).drew.cell? ⟨B, 23, none⟩ = some (.int .i64 v.who) ∧ (w.alloc (.cells #[.int .i64 0, .int .i64 0, .int .u64 0, .int .u64 0, .int .u64 0, .int .u64 0] 43)).drew.cell? ⟨B, 26, none⟩ = some (.int .i64 v.block)) := Lib.hid ⟨VwS.map (Blk.drew HH.out), VwC.who (VwS.cells (Blk.drew HH.out)), VwC.block (VwS.cells (Blk.drew HH.out))⟩
  clear h hA hc
  by_cases h0 : v.st = 0
  · rw [h0] at c8
    by_cases hn : v.next = 0
    · have HE : Hid (v.ask c = (⟨1, c.at_ 3 v.who 0, 0, 0, v.block + 1, 0⟩, true)) := Lib.hid (by unfold VwD.ask; rw [if_neg (by simp [h0]), if_pos hn])
      obtain ⟨b0, b1⟩ := hb h0 hn
      rw [hn] at c6
      clear h0 hn hb
      go_enter Try.func13, Try.ntmps13
      go_wp2_with fail
      go_region_held3 (fun w' => (loadMap ⟨B, 0, none⟩).run Try.prog w' = .ok (.agg (mapA c)) w' ∧ w'.cell? ⟨B, 23, none⟩ = some (.int .i64 v.who) ∧ w'.cell? ⟨B, 26, none⟩ = some (.int .i64 v.block))
          (with_reducible (first | exact VwS.three (VwS.six H1.out HN.out _ _ _ _ _ _) | exact S1.out | exact S0.out))
          ((go_at_call 49; (refine (at_calls c HC.out _ _ _ _).mono ?_); rintro e w1 ⟨rfl, hk⟩; have hB1 : VwS w1 B c v := hk.blk (Blk.drew HH.out) (fun h => h); have H1 := Lib.hid hB1; have S1 : Hid ((loadMap ⟨B, 0, none⟩).run Try.prog w1 = .ok (.agg (mapA c)) w1 ∧ w1.cell? ⟨B, 23, none⟩ = some (.int .i64 v.who) ∧ w1.cell? ⟨B, 26, none⟩ = some (.int .i64 v.block)) := Lib.hid ⟨hB1.map, hB1.cells.who, hB1.cells.block⟩; have hR1 : Blk w1 w.heap.size 43 #[.int .i64 0, .int .i64 0, .int .u64 0, .int .u64 0, .int .u64 0, .int .u64 0] := hk.blk HR.out.drew (fun h => h); have r0 : w1.cell? ⟨w.heap.size, 0, none⟩ = some (.int .i64 0) := hR1.cell 0; have z0 := hR1.frozen 0; have r1 : w1.cell? ⟨w.heap.size, 1, none⟩ = some (.int .i64 0) := hR1.cell 1; have z1 := hR1.frozen 1; have r2 : w1.cell? ⟨w.heap.size, 2, none⟩ = some (.int .u64 0) := hR1.cell 2; have z2 := hR1.frozen 2; have r3 : w1.cell? ⟨w.heap.size, 3, none⟩ = some (.int .u64 0) := hR1.cell 3; have z3 := hR1.frozen 3; have r4 : w1.cell? ⟨w.heap.size, 4, none⟩ = some (.int .u64 0) := hR1.cell 4; have z4 := hR1.frozen 4; have r5 : w1.cell? ⟨w.heap.size, 5, none⟩ = some (.int .u64 0) := hR1.cell 5; have z5 := hR1.frozen 5))
      go_wp2_with fail
      have e1 : IntKind.u64.wrap v.block = v.block := IntWalk.u64_in _ (by omega)
      have e2 : IntKind.u64.wrap (v.block + 1) = v.block + 1 := IntWalk.u64_in _ (by omega)
      exact bodyPost_ret (v := askV (⟨1, c.at_ 3 v.who 0, 0, 0, IntKind.u64.wrap (IntKind.u64.wrap v.block + 1), 0⟩, true)) (results_cell_slot (q := 3) rfl _ _ w.heap.size 43 _ (0, 0) _ rfl (Blk.six hR1 _ _ _ _ _ _) Try.underlying43 rfl (by kernel_rfl)) rfl ⟨by rw [HE.out, e1, e2], Kept.six (((Kept.refl _ w).alloc _).drew.trans hk) (Nat.le_refl _) _ _ _ _ _ _⟩
    · have hn' : (v.next == 0) = false := by simpa using hn
      by_cases h1 : v.next = 1
      · have HE : Hid (v.ask c = (ldOp (c.at_ 11 v.block 0), true)) := Lib.hid (by unfold VwD.ask; rw [if_neg (by simp [h0]), if_neg hn, if_pos h1])
        rw [h1] at c6
        clear h0 hn hb h1
        go_enter Try.func13, Try.ntmps13
        go_wp2_with fail
        go_region_held3 (fun w' => (loadMap ⟨B, 0, none⟩).run Try.prog w' = .ok (.agg (mapA c)) w' ∧ w'.cell? ⟨B, 23, none⟩ = some (.int .i64 v.who) ∧ w'.cell? ⟨B, 26, none⟩ = some (.int .i64 v.block))
          (with_reducible (first | exact VwS.three (VwS.six H1.out HN.out _ _ _ _ _ _) | exact S1.out | exact S0.out))
          ((go_at_call 49; (refine (at_calls c HC.out _ _ _ _).mono ?_); rintro e w1 ⟨rfl, hk⟩; have hB1 : VwS w1 B c v := hk.blk (Blk.drew HH.out) (fun h => h); have H1 := Lib.hid hB1; have S1 : Hid ((loadMap ⟨B, 0, none⟩).run Try.prog w1 = .ok (.agg (mapA c)) w1 ∧ w1.cell? ⟨B, 23, none⟩ = some (.int .i64 v.who) ∧ w1.cell? ⟨B, 26, none⟩ = some (.int .i64 v.block)) := Lib.hid ⟨hB1.map, hB1.cells.who, hB1.cells.block⟩; have hR1 : Blk w1 w.heap.size 43 #[.int .i64 0, .int .i64 0, .int .u64 0, .int .u64 0, .int .u64 0, .int .u64 0] := hk.blk HR.out.drew (fun h => h); have r0 : w1.cell? ⟨w.heap.size, 0, none⟩ = some (.int .i64 0) := hR1.cell 0; have z0 := hR1.frozen 0; have r1 : w1.cell? ⟨w.heap.size, 1, none⟩ = some (.int .i64 0) := hR1.cell 1; have z1 := hR1.frozen 1; have r2 : w1.cell? ⟨w.heap.size, 2, none⟩ = some (.int .u64 0) := hR1.cell 2; have z2 := hR1.frozen 2; have r3 : w1.cell? ⟨w.heap.size, 3, none⟩ = some (.int .u64 0) := hR1.cell 3; have z3 := hR1.frozen 3; have r4 : w1.cell? ⟨w.heap.size, 4, none⟩ = some (.int .u64 0) := hR1.cell 4; have z4 := hR1.frozen 4; have r5 : w1.cell? ⟨w.heap.size, 5, none⟩ = some (.int .u64 0) := hR1.cell 5; have z5 := hR1.frozen 5))
        go_wp2_with fail
        exact bodyPost_ret (v := askV _) (results_cell_slot (q := 3) rfl _ _ w.heap.size 43 _ (0, 0) _ rfl (Blk.six hR1 _ _ _ _ _ _) Try.underlying43 rfl (by kernel_rfl)) rfl ⟨by rw [HE.out], Kept.six (((Kept.refl _ w).alloc _).drew.trans hk) (Nat.le_refl _) _ _ _ _ _ _⟩
      · have HE : Hid (v.ask c = (ldOp v.pos, true)) := Lib.hid (by unfold VwD.ask; rw [if_neg (by simp [h0]), if_neg hn, if_neg h1])
        have h1' : (v.next == 1) = false := by simpa using h1
        clear h0 hn hb h1
        go_enter Try.func13, Try.ntmps13
        go_wp2_with fail
        exact bodyPost_ret (v := askV _) (results_cell_slot (q := 3) rfl _ _ w.heap.size 43 #[.int .i64 0, .int .i64 v.pos, .int .u64 0, .int .u64 0, .int .u64 0, .int .u64 0] (0, 0) _ rfl (Blk.new _ _ _) Try.underlying43 rfl (by kernel_rfl)) rfl ⟨by rw [HE.out], (Kept.refl _ _).alloc _⟩
  · have HE : Hid (v.ask c = (noOp, false)) := Lib.hid (by unfold VwD.ask; rw [if_pos h0])
    have h0' : (v.st == 0) = false := by simpa using h0
    clear h0
    go_enter Try.func13, Try.ntmps13
    go_wp2_with fail
    exact bodyPost_ret (v := askV _) (results_cell_slot (q := 3) rfl _ _ w.heap.size 43 #[.int .i64 0, .int .i64 0, .int .u64 0, .int .u64 0, .int .u64 0, .int .u64 0] (0, 0) _ rfl (Blk.new _ _ _) Try.underlying43 rfl (by kernel_rfl)) rfl ⟨by rw [HE.out], (Kept.refl _ _).alloc _⟩

def VwD.cell (c : CfgD) (v : VwD) (p : Int) : VwD := v.beg (decide (7 ≤ (c.what p).1) && decide ((c.what p).1 ≤ 15)) (-1) p
def VwD.word (c : CfgD) (v : VwD) (b k : Int) : VwD := v.beg (c.at_ 16 b k != -1) b (c.at_ 16 b k)
def VwD.live (c : CfgD) (v : VwD) (b : Int) : VwD := v.beg (c.at_ 11 b 0 != -1) b (-1)

set_option maxRecDepth 100000 in
set_option maxHeartbeats 2000000 in
theorem vwCell_calls {w : World} {B : Nat} {c : CfgD} {v : VwD} (h : VwS w B c v) (hc : c.Bd) (p : Int) (hp : -9223372036854775808 ≤ p ∧ p ≤ 9223372036854775807) :
    Calls Try.prog 56 #[.pointer (some ⟨B, 0, none⟩), .int .i64 p] w (VwT w B c (v.cell c p)) := by
  have hl := h.map
  have HH := Lib.hid h
  have HC := Lib.hid hc
  have HP := Lib.hid hp
  clear h hc hp
  by_cases h7 : 7 ≤ (c.what p).1
  · have h7' : decide (7 ≤ (c.what p).1) = true := decide_eq_true h7
    go_enter Try.func56, Try.ntmps56
    go_wp2_with (first
      | (go_at_call 52; (refine (what_calls c HC.out p HP.out _).mono ?_); rintro e w1 ⟨rfl, hk⟩; have H1 := Lib.hid (HH.out.keep hk))
      | (go_at_call 83; (refine (vwBegin_calls H1.out _ _ _).mono ?_); rintro e w2 ⟨rfl, h2, hk2⟩))
    go_end0
    exact VwT.mk rfl (by unfold VwD.cell; rw [h7', Bool.true_and]; exact h2) ((hk.mono (fun _ _ h => h.elim)).trans hk2)
  · have h7' : decide (7 ≤ (c.what p).1) = false := decide_eq_false h7
    go_enter Try.func56, Try.ntmps56
    go_wp2_with (first
      | (go_at_call 52; (refine (what_calls c HC.out p HP.out _).mono ?_); rintro e w1 ⟨rfl, hk⟩; have H1 := Lib.hid (HH.out.keep hk))
      | (go_at_call 83; (refine (vwBegin_calls H1.out _ _ _).mono ?_); rintro e w2 ⟨rfl, h2, hk2⟩))
    go_end0
    exact VwT.mk rfl (by unfold VwD.cell; rw [h7', Bool.false_and]; exact h2) ((hk.mono (fun _ _ h => h.elim)).trans hk2)

set_option maxRecDepth 100000 in
set_option maxHeartbeats 2000000 in
theorem vwWord_calls {w : World} {B : Nat} {c : CfgD} {v : VwD} (h : VwS w B c v) (hc : c.Bd) (b k : Int) :
    Calls Try.prog 55 #[.pointer (some ⟨B, 0, none⟩), .int .i64 b, .int .i64 k] w (VwT w B c (v.word c b k)) := by
  have hl := h.map
  have HH := Lib.hid h
  have HC := Lib.hid hc
  clear h hc
  go_enter Try.func55, Try.ntmps55
  go_wp2_with (first
    | (go_at_call 49; (refine (at_calls c HC.out _ _ _ _).mono ?_); rintro e w1 ⟨rfl, hk⟩; have H1 := Lib.hid (HH.out.keep hk))
    | (go_at_call 83; (refine (vwBegin_calls H1.out _ _ _).mono ?_); rintro e w2 ⟨rfl, h2, hk2⟩))
  go_end0
  exact VwT.mk rfl h2 ((hk.mono (fun _ _ h => h.elim)).trans hk2)

set_option maxRecDepth 100000 in
set_option maxHeartbeats 2000000 in
theorem vwLive_calls {w : World} {B : Nat} {c : CfgD} {v : VwD} (h : VwS w B c v) (hc : c.Bd) (b : Int) :
    Calls Try.prog 57 #[.pointer (some ⟨B, 0, none⟩), .int .i64 b] w (VwT w B c (v.live c b)) := by
  have hl := h.map
  have HH := Lib.hid h
  have HC := Lib.hid hc
  clear h hc
  go_enter Try.func57, Try.ntmps57
  go_wp2_with (first
    | (go_at_call 49; (refine (at_calls c HC.out _ _ _ _).mono ?_); rintro e w1 ⟨rfl, hk⟩; have H1 := Lib.hid (HH.out.keep hk))
    | (go_at_call 83; (refine (vwBegin_calls H1.out _ _ _).mono ?_); rintro e w2 ⟨rfl, h2, hk2⟩))
  go_end0
  exact VwT.mk rfl h2 ((hk.mono (fun _ _ h => h.elim)).trans hk2)
end Go.Proofs.Ythjkodjpopcjaaa
