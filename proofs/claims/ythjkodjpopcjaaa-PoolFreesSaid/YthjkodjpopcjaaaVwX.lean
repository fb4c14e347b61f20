/- Layer 9: a view, and blocks beside it that stay. Law 09's begin. -/
import Derived.Test.YthjkodjpopcjaaaVwL
namespace Go.Proofs.Ythjkodjpopcjaaa
open Go.RowKit
attribute [local go_sem ↓] loadMap_eq loadCfg_eq

structure VX (w0 w : World) (B : Nat) (c : CfgD) (v : VwD) (L : List (Nat × TypeId × Array Value)) : Prop where
  vw : VwS w B c v
  kept : Kept (fun _ => False) w0 w
  old : w0.heap.size ≤ B
  blks : ∀ x ∈ L, Blk w x.1 x.2.1 x.2.2 ∧ x.1 ≠ B
section
variable {w0 w w' : World} {B : Nat} {c : CfgD} {v v' : VwD} {L : List (Nat × TypeId × Array Value)} {g : Nat} {t : TypeId} {cs : Array Value}
theorem VX.keep (h : VX w0 w B c v L) (k : Kept (fun _ => False) w w') : VX w0 w' B c v L :=
  ⟨h.vw.keep k, h.kept.trans k, h.old, fun x hx => ⟨k.blk (h.blks x hx).1 (fun h => h), (h.blks x hx).2⟩⟩
theorem VX.turn (h : VX w0 w B c v L) (t : VwS w' B c v') (k : Kept (fun k => k = B) w w') : VX w0 w' B c v' L :=
  ⟨t, Kept.fresh9 h.kept k h.old, h.old, fun x hx => ⟨k.blk (h.blks x hx).1 (h.blks x hx).2, (h.blks x hx).2⟩⟩
theorem VX.add (h : VX w0 w B c v L) (hb : Blk w g t cs) (hn : g ≠ B) : VX w0 w B c v ((g, t, cs) :: L) :=
  ⟨h.vw, h.kept, h.old, fun x hx => by
    rcases List.mem_cons.1 hx with rfl | hx
    · exact ⟨hb, hn⟩
    · exact h.blks x hx⟩
theorem VX.more (h : VX w0 w B c v L) (t : TypeId) (cs : Array Value) : VX w0 (w.alloc (.cells cs t)) B c v ((w.heap.size, t, cs) :: L) :=
  (h.keep ((Kept.refl _ w).alloc _)).add (Blk.new _ _ _) (by have := Blk.lt h.vw; omega)
theorem VX.sub (h : VX w0 w B c v L) {M : List (Nat × TypeId × Array Value)} (hs : ∀ x ∈ M, x ∈ L) : VX w0 w B c v M := ⟨h.vw, h.kept, h.old, fun x hx => h.blks x (hs x hx)⟩
theorem VX.at (h : VX w0 w B c v ((g, t, cs) :: L)) : Blk w g t cs := (h.blks _ (List.mem_cons_self ..)).1
theorem VX.tail (h : VX w0 w B c v ((g, t, cs) :: L)) : VX w0 w B c v L := h.sub (fun _ hx => List.mem_cons_of_mem _ hx)
/-- The newest block is written. -/
theorem VX.put (h : VX w0 w B c v ((g, t, cs) :: L)) (hg : w0.heap.size ≤ g) (hL : ∀ x ∈ L, x.1 ≠ g) {ty : TypeId} {new : Array Value} (hi : (Try.prog.info? ty).map (·.size) = some new.size) (hs : cs.size = new.size) (h1 : new.all (·.oneCell') = true) :
    ∃ w', (stV ty ⟨g, 0, none⟩ (.agg new)).run Try.prog w = .ok () w' ∧ VX w0 w' B c v ((g, t, new) :: L) ∧ Kept (fun k => k = g) w w' := by
  obtain ⟨w', h1, h2, h3⟩ := stV_blk (ty := ty) h.at hi hs h1
  refine ⟨w', h1, ⟨h.vw.kept h3 (fun e => (h.blks _ (List.mem_cons_self ..)).2 e.symm), Kept.fresh9 h.kept h3 hg, h.old, fun x hx => ?_⟩, h3⟩
  rcases List.mem_cons.1 hx with rfl | hx
  · exact ⟨h2, (h.blks _ (List.mem_cons_self ..)).2⟩
  · exact ⟨h3.blk (h.blks x (List.mem_cons_of_mem _ hx)).1 (hL x hx), (h.blks x (List.mem_cons_of_mem _ hx)).2⟩
theorem VX.lt (h : VX w0 w B c v L) : ∀ x ∈ L, x.1 ≠ w.heap.size := fun x hx => by have := (h.blks x hx).1.lt; omega

theorem VX.tell (h : VX w0 w B c v L) (val seq : Int) (ok : Bool) : Calls Try.prog 16 #[.pointer (some ⟨B, 0, none⟩), .agg #[.int .u64 val, .int .u64 seq, .bool ok]] w fun e w' => e = .returned (.tuple #[]) ∧ VX w0 w' B c (v.tell val seq) L :=
  (vwTell_calls h.vw val seq ok).mono fun _ _ ⟨h1, h2, h3⟩ => ⟨h1, h.turn h2 h3⟩
theorem VX.ask (h : VX w0 w B c v L) (hc : c.Bd) (hb : v.st = 0 → v.next = 0 → 0 ≤ v.block ∧ v.block < 64) : Calls Try.prog 13 #[.pointer (some ⟨B, 0, none⟩)] w fun e w' => e = .returned (askV (v.ask c)) ∧ VX w0 w' B c v L :=
  (vwAsk_calls h.vw hc hb).mono fun _ _ ⟨h1, h2⟩ => ⟨h1, h.keep h2⟩
theorem VX.fin (h : VX w0 w B c v L) : Calls Try.prog 15 #[.pointer (some ⟨B, 0, none⟩)] w fun e w' => e = .returned (.tuple #[.int .u64 v.val, .int .i64 v.st]) ∧ VX w0 w' B c v L :=
  (vwEnd_calls h.vw).mono fun _ _ ⟨h1, h2⟩ => ⟨h1, h.keep h2⟩
theorem VX.cell (h : VX w0 w B c v L) (hc : c.Bd) (p : Int) (hp : -9223372036854775808 ≤ p ∧ p ≤ 9223372036854775807) : Calls Try.prog 56 #[.pointer (some ⟨B, 0, none⟩), .int .i64 p] w fun e w' => e = .returned (.tuple #[]) ∧ VX w0 w' B c (v.cell c p) L :=
  (vwCell_calls h.vw hc p hp).mono fun _ _ ⟨h1, h2, h3⟩ => ⟨h1, h.turn h2 h3⟩
theorem VX.word (h : VX w0 w B c v L) (hc : c.Bd) (b k : Int) : Calls Try.prog 55 #[.pointer (some ⟨B, 0, none⟩), .int .i64 b, .int .i64 k] w fun e w' => e = .returned (.tuple #[]) ∧ VX w0 w' B c (v.word c b k) L :=
  (vwWord_calls h.vw hc b k).mono fun _ _ ⟨h1, h2, h3⟩ => ⟨h1, h.turn h2 h3⟩
theorem VX.live (h : VX w0 w B c v L) (hc : c.Bd) (b : Int) : Calls Try.prog 57 #[.pointer (some ⟨B, 0, none⟩), .int .i64 b] w fun e w' => e = .returned (.tuple #[]) ∧ VX w0 w' B c (v.live c b) L :=
  (vwLive_calls h.vw hc b).mono fun _ _ ⟨h1, h2, h3⟩ => ⟨h1, h.turn h2 h3⟩
end

/-- A reading that is begun, as data. -/
structure RqD where
  kind : Int
  pos : Int
  block : Int
def VwD.req (c : CfgD) (v : VwD) (q : RqD) : VwD :=
  if q.kind = 0 then v.cell c q.pos else if q.kind = 1 then v.word c q.block q.pos else if q.kind = 2 then v.live c q.block else v.cell c (c.at_ 10 (bits BinOp.and IntKind.i64 q.pos 15) 0)
theorem at_bd {c : CfgD} (h : c.Bd) (k i j : Int) : -1 ≤ c.at_ k i j ∧ c.at_ k i j ≤ 60000 := by
  by_cases hn : c.at_ k i j = -1
  · omega
  · obtain ⟨_, hh, h0, _⟩ := CfgD.at_hit h hn
    obtain ⟨hk, i0, i1, j0, j1, e⟩ := hh
    refine ⟨by omega, ?_⟩
    have hs : c.at_ k i j < c.size := by assumption
    obtain ⟨t1, t8, b1, b64, w0, w64, l0, l1, w3, w5, s0, s1⟩ := h
    simp only [CfgD.size, CfgD.word, CfgD.limbo, CfgD.limp, CfgD.stack, CfgD.top, CfgD.life, CfgD.root, CfgD.ans] at hs
    omega

set_option maxRecDepth 100000 in
set_option maxHeartbeats 2000000 in
theorem begin9_calls {w : World} {B : Nat} {c : CfgD} {v : VwD} (h : VwS w B c v) (hc : c.Bd) (q : RqD) (hq : -9223372036854775808 ≤ q.pos ∧ q.pos ≤ 9223372036854775807) :
    Calls Try.prog 12 #[.pointer (some ⟨B, 0, none⟩), .agg (cfgA c), .agg #[.int .i64 q.kind, .int .i64 q.pos, .int .i64 q.block]] w (VwT w B c (v.req c q)) := by
  have HH := Lib.hid ((h.keep ((Kept.refl _ w).alloc (.cells (cfgA c) 24))).keep ((Kept.refl _ _).alloc (.cells #[.int .i64 q.kind, .int .i64 q.pos, .int .i64 q.block] 38)))
  have HK := Lib.hid ((((Kept.refl (fun k => k = B) w).alloc (.cells (cfgA c) 24))).alloc (.cells #[.int .i64 q.kind, .int .i64 q.pos, .int .i64 q.block] 38))
  have HC := Lib.hid hc
  have HQ := Lib.hid hq
  have hl : (loadCfg ⟨w.heap.size, 0, none⟩).run Try.prog ((w.alloc (.cells (cfgA c) 24)).alloc (.cells #[.int .i64 q.kind, .int .i64 q.pos, .int .i64 q.block] 38)) = .ok (.agg (cfgA c)) ((w.alloc (.cells (cfgA c) 24)).alloc (.cells #[.int .i64 q.kind, .int .i64 q.pos, .int .i64 q.block] 38)) := loadCfg_blk ((Blk.new _ _ _).alloc _)
  clear h hc hq
  by_cases h0 : q.kind = 0
  · have HE : Hid (v.req c q = v.cell c q.pos) := Lib.hid (by unfold VwD.req; rw [if_pos h0])
    have h0' : (q.kind == 0) = true := by simpa using h0
    clear h0
    go_enter Try.func12, Try.ntmps12
    go_wp2_with (go_at_call 56; (refine (vwCell_calls HH.out HC.out _ HQ.out).mono ?_); rintro e w2 ⟨rfl, h2, hk2⟩)
    go_end0
    exact VwT.mk rfl (by rw [HE.out]; exact h2) (HK.out.trans hk2)
  have h0' : (q.kind == 0) = false := by simpa using h0
  by_cases h1 : q.kind = 1
  · have HE : Hid (v.req c q = v.word c q.block q.pos) := Lib.hid (by unfold VwD.req; rw [if_neg h0, if_pos h1])
    have h1' : (q.kind == 1) = true := by simpa using h1
    clear h0 h1
    go_enter Try.func12, Try.ntmps12
    go_wp2_with (go_at_call 55; (refine (vwWord_calls HH.out HC.out _ _).mono ?_); rintro e w2 ⟨rfl, h2, hk2⟩)
    go_end0
    exact VwT.mk rfl (by rw [HE.out]; exact h2) (HK.out.trans hk2)
  have h1' : (q.kind == 1) = false := by simpa using h1
  by_cases h2 : q.kind = 2
  · have HE : Hid (v.req c q = v.live c q.block) := Lib.hid (by unfold VwD.req; rw [if_neg h0, if_neg h1, if_pos h2])
    have h2' : (q.kind == 2) = true := by simpa using h2
    clear h0 h1 h2
    go_enter Try.func12, Try.ntmps12
    go_wp2_with (go_at_call 57; (refine (vwLive_calls HH.out HC.out _).mono ?_); rintro e w2 ⟨rfl, h2, hk2⟩)
    go_end0
    exact VwT.mk rfl (by rw [HE.out]; exact h2) (HK.out.trans hk2)
  · have HE : Hid (v.req c q = v.cell c (c.at_ 10 (bits BinOp.and IntKind.i64 q.pos 15) 0)) := Lib.hid (by unfold VwD.req; rw [if_neg h0, if_neg h1, if_neg h2])
    have h2' : (q.kind == 2) = false := by simpa using h2
    clear h0 h1 h2
    go_enter Try.func12, Try.ntmps12
    go_wp2_with (first
      | (go_at_call 59; (refine (rAt_calls c HC.out _ _ _ _).mono ?_); rintro e w1 ⟨rfl, hk⟩; have H1 := Lib.hid (HH.out.keep hk); have HK1 := Lib.hid (HK.out.trans (hk.mono (fun _ _ h => h.elim))); clear hk)
      | (go_at_call 56; (refine (vwCell_calls H1.out HC.out _ (by have := at_bd HC.out 10 (bits BinOp.and IntKind.i64 q.pos 15) 0; omega)).mono ?_); rintro e w2 ⟨rfl, h2, hk2⟩))
    go_end0
    exact VwT.mk rfl (by rw [HE.out]; exact h2) (HK1.out.trans hk2)
theorem VX.begin {w0 w : World} {B : Nat} {c : CfgD} {v : VwD} {L : List (Nat × TypeId × Array Value)} (h : VX w0 w B c v L) (hc : c.Bd) (q : RqD) (hq : -9223372036854775808 ≤ q.pos ∧ q.pos ≤ 9223372036854775807) :
    Calls Try.prog 12 #[.pointer (some ⟨B, 0, none⟩), .agg (cfgA c), .agg #[.int .i64 q.kind, .int .i64 q.pos, .int .i64 q.block]] w fun e w' => e = .returned (.tuple #[]) ∧ VX w0 w' B c (v.req c q) L :=
  (begin9_calls h.vw hc q hq).mono fun _ _ ⟨h1, h2, h3⟩ => ⟨h1, h.turn h2 h3⟩
end Go.Proofs.Ythjkodjpopcjaaa
