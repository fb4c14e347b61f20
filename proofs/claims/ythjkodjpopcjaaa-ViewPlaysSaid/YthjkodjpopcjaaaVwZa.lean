/- Layer 9, for ViewPlays' walk: the state of a reading, step by step. -/
/- Layer 9, for ViewPlays: a part of a row of replies; the document's view and tape go into variables; comparing steps. -/
import Derived.Test.YthjkodjpopcjaaaVwK
import Derived.Test.YthjkodjpopcjaaaVwT
import Derived.Test.YthjkodjpopcjaaaVwD
namespace Go.Proofs.Ythjkodjpopcjaaa
theorem begQ_req (c : CfgD) (v : VwD) (qk qa qb : Int) : VwD.req c v ⟨qk, qa, qb⟩ = begQ c v qk qa qb := rfl
theorem tells_snoc (v : VwD) (l : List OutD) (o : OutD) : tells v (l ++ [o]) = (tells v l).tell o.val o.seq := by simp [tells]
/-- All replies were handed while a step was asked for. -/
def GoingB (v : VwD) (l : List OutD) : Prop := ∀ i, i < l.length → (tells v (l.take i)).st = 0
theorem GoingB.nil (v : VwD) : GoingB v [] := fun i h => absurd h (by simp)
theorem GoingB.snoc {v : VwD} {l : List OutD} (h : GoingB v l) (h0 : (tells v l).st = 0) (o : OutD) : GoingB v (l ++ [o]) := fun i hi => by
  rw [List.length_append, List.length_singleton] at hi
  by_cases hl : i = l.length
  · subst hl
    rw [List.take_left]
    exact h0
  · rw [List.take_append_of_le_length (by omega)]
    exact h i (by omega)
theorem tell_blk (v : VwD) (val seq : Int) : (v.tell val seq).st = 0 → (v.tell val seq).next = 0 → 0 ≤ (v.tell val seq).block ∧ (v.tell val seq).block < 64 := by
  unfold VwD.tell VwD.last
  intro h1 h2
  exfalso
  revert h1 h2
  repeat' split
  all_goals simp_all
theorem begQ_blk {c : CfgD} (hc : c.Bd) (v : VwD) (h0 : v.st ≠ 0) (qk qa qb : Int) : (begQ c v qk qa qb).st = 0 → (begQ c v qk qa qb).next = 0 → 0 ≤ (begQ c v qk qa qb).block ∧ (begQ c v qk qa qb).block < 64 := by
  by_cases h2 : v.st = 2
  · intro hs
    exfalso
    have e : begQ c v qk qa qb = v := by
      unfold begQ VwD.cell VwD.word VwD.live VwD.beg
      simp [h2]
    rw [e] at hs
    exact h0 hs
  · exact (req_TI hc rfl h2 ⟨qk, qa, qb⟩).blk hc
theorem tells_blk {c : CfgD} (hc : c.Bd) (v : VwD) (h0 : v.st ≠ 0) (qk qa qb : Int) (l : List OutD) : (tells (begQ c v qk qa qb) l).st = 0 → (tells (begQ c v qk qa qb) l).next = 0 → 0 ≤ (tells (begQ c v qk qa qb) l).block ∧ (tells (begQ c v qk qa qb) l).block < 64 := by
  rcases List.eq_nil_or_concat l with rfl | ⟨l', o, rfl⟩
  · exact begQ_blk hc v h0 qk qa qb
  · rw [List.concat_eq_append, tells_snoc]
    exact tell_blk _ _ _
theorem ask_ok (c : CfgD) (v : VwD) : (v.ask c).2 = decide (v.st = 0) := by
  unfold VwD.ask
  by_cases h0 : v.st = 0
  · rw [if_neg (by simp [h0]), decide_eq_true h0]; split
    · rfl
    · split <;> rfl
  · rw [if_pos h0, decide_eq_false h0]
theorem Rel9.ne {v : VwD} {x : XvD} {who seq : Int} (h : Rel9 v x who seq) : v.st ≠ 0 := by
  rcases h.st with ⟨h, _, _⟩ | ⟨_, h | h⟩ <;> omega
/-- What the law looks at behind each step. -/
theorem Agree.look {c : CfgD} {v : VwD} {who seq : Int} {r : RdR} (h : Agree c v who seq r) : v.ask c = (r.2.1.ask, r.2.1.need) ∧ v.st = r.2.2.2 ∧ (r.2.1.need = false → v.val = r.2.2.1 ∧ Rel9 v r.1 who seq) := by
  obtain ⟨h1, h2, h3⟩ := h
  by_cases h0 : v.st = 0
  · obtain ⟨a, b⟩ := h2 h0
    refine ⟨by rw [b, a], h1, fun hn => ?_⟩
    rw [a] at hn
    cases hn
  · obtain ⟨a, b, d, e⟩ := h3 h0
    refine ⟨?_, h1, fun _ => ⟨d, e⟩⟩
    rw [a, b]
    unfold VwD.ask
    rw [if_pos h0]
theorem rel_new {seq who : Int} : Rel9 ⟨who, seq, -1, 0, 0, 0, 0, 1⟩ ⟨-1, false⟩ who seq := ⟨rfl, rfl, rfl, .inr ⟨rfl, .inl rfl⟩⟩
end Go.Proofs.Ythjkodjpopcjaaa

namespace Go.Proofs.Ythjkodjpopcjaaa
open Go.RowKit
set_option maxRecDepth 100000

/-- Where a part of a slice of things of three cells begins. -/
def outA (A : Option Addr) (c l : Nat) : Option Addr := if c - l = 0 then A else A.map (·.add (l * 3))
theorem Try.sizeOut : (Try.prog.info? 55).map (·.size) = some 3 := by kernel_rfl
theorem Try.elemOuts : Try.prog.elem 26 = 55 := by kernel_rfl
theorem run_outs_sl (A : Option Addr) (m c l h : Nat) (h1 : l ≤ h) (h2 : h ≤ c) (W : World) :
    (Instr.slice 26 (.slice A m c) (some (.int .i64 l)) (some (.int .i64 h)) none).run Try.prog W = .ok (.slice (outA A c l) (h - l) (c - l)) W := by
  have e1 : (h : Int).toNat = h := by omega
  have e2 : (l : Int).toNat = l := by omega
  have hs : (sizeOf 55).run Try.prog W = .ok 3 W := by
    obtain ⟨i, hi, h3⟩ := Option.map_eq_some_iff.1 Try.sizeOut
    simp [sizeOf, hi, h3, go_sem]
    first | rfl | kernel_rfl
  rw [run_slice_lh (ht := by rw [Try.elemOuts]; exact Try.underlying26) (h0 := by omega) (h1 := by omega) (h2 := by omega), Try.elemOuts, hs, e1, e2]
  simp only [Result.andThen, sliced, outA]
  by_cases hc : c = l
  · simp [hc]
  · rw [if_neg hc, if_neg (by omega)]
theorem SlAt.part {w : World} {A : Option Addr} {L : List OutD} (h : SlAt w A 3 (L.map OutD.cells)) {c l k : Nat} (h1 : l ≤ k) (h2 : k ≤ L.length) (h3 : L.length ≤ c) : SlAt w (outA A c l) 3 (((L.drop l).take (k - l)).map OutD.cells) := fun h0 => by
  rw [List.length_map, List.length_take, List.length_drop] at h0
  obtain ⟨b, off, rfl, hb, hc⟩ := h (by rw [List.length_map]; omega)
  refine ⟨b, off + l * 3, ?_, hb, fun i cs hi j u hj => ?_⟩
  · unfold outA
    rw [if_neg (by omega)]
    simp [Addr.add]
  · rw [List.getElem?_map] at hi
    rw [show off + l * 3 + i * 3 + j = off + (l + i) * 3 + j by omega]
    refine hc (l + i) cs ?_ j u hj
    rw [List.getElem?_map]
    by_cases hk : i < k - l
    · rw [List.getElem?_take_of_lt hk, List.getElem?_drop] at hi
      exact hi
    · rw [List.getElem?_eq_none (by rw [List.length_take]; omega)] at hi
      cases hi
theorem part_len (L : List OutD) {l k : Nat} (h1 : l ≤ k) (h2 : k ≤ L.length) : ((L.drop l).take (k - l)).length = k - l := by
  rw [List.length_take, List.length_drop]; omega
theorem part_snoc {L : List OutD} {l k : Nat} {o : OutD} (h1 : l ≤ k) (h : L[k]? = some o) : (L.drop l).take (k + 1 - l) = (L.drop l).take (k - l) ++ [o] := by
  have e : k + 1 - l = (k - l) + 1 := by omega
  have hk : (L.drop l)[k - l]? = some o := by rw [List.getElem?_drop, show l + (k - l) = k by omega]; exact h
  rw [e, List.take_add_one, hk]
  rfl
theorem run_op_neq (W : World) (a0 a1 a2 a3 a4 a5 : Int) : (binOp .neq 43 (.agg #[.int .i64 a0, .int .i64 a1, .int .u64 a2, .int .u64 a3, .int .u64 a4, .int .u64 a5]) (.agg #[.int .i64 a0, .int .i64 a1, .int .u64 a2, .int .u64 a3, .int .u64 a4, .int .u64 a5])).run Try.prog W = .ok (.bool false) W := by
  simp [go_sem]
theorem doesA {w : World} {A : Option Addr} {m cp : Nat} {L : List OutD} (hL : L.length = m) (hm : m ≤ maxLen) (hs : SlAt w A 3 (L.map OutD.cells)) (c : CfgD) (hb : c.Bd) (who seq : Int) (x : XvD) (qk qa qb : Int) {xh : Int} {xs : Bool} {t : TpD} {val st : Int}
    (hr : doesR c L who seq x t0 qk qa qb = (⟨xh, xs⟩, t, val, st)) :
    Calls Try.prog 14 #[.agg (rvA c who seq x.held x.stale), .agg #[.slice A m cp, .int .i64 0, .int .i64 0, .int .i64 0, .int .u64 0, .int .u64 0, .int .u64 0, .int .u64 0, .bool false], .agg #[.int .i64 qk, .int .i64 qa, .int .i64 qb]] w fun e w' =>
      e = .returned (.tuple #[.agg (rvA c who seq xh xs), .agg (tpA (.slice A m cp) t), .int .u64 val, .int .i64 st]) ∧ Kept (fun _ => False) w w' :=
  (does_calls (cp := cp) hL hm hs c hb who seq x t0 qk qa qb).mono fun _ _ ⟨h1, h2⟩ => ⟨by rw [h1, hr]; rfl, h2⟩
theorem VX.more' {w0 w : World} {B : Nat} {c : CfgD} {v : VwD} {L : List (Nat × TypeId × Array Value)} (h : VX w0 w B c v L) (t : TypeId) (cs : Array Value) (n : Nat) (hn : n = w.heap.size) : VX w0 (w.alloc (.cells cs t)) B c v ((n, t, cs) :: L) := by
  subst hn
  exact h.more t cs
theorem VX.swap {w0 w : World} {B : Nat} {c : CfgD} {v : VwD} {L : List (Nat × TypeId × Array Value)} {a b : Nat × TypeId × Array Value} (h : VX w0 w B c v (a :: b :: L)) : VX w0 w B c v (b :: a :: L) := h.sub (fun x hx => by
  simp only [List.mem_cons] at hx ⊢
  rcases hx with h | h | h
  · exact .inr (.inl h)
  · exact .inl h
  · exact .inr (.inr h))
/-- Behind does: the document's view and its tape go into new variables. -/
theorem VX.st2 {w0 w : World} {B : Nat} {c : CfgD} {v : VwD} {L : List (Nat × TypeId × Array Value)} {gy gt : Nat} (h : VX w0 w B c v ((gy, 34, rv0) :: (gt, 47, tp0) :: L)) (h1 : w0.heap.size ≤ gy) (h2 : w0.heap.size ≤ gt) (hne : gy ≠ gt) (hL : ∀ x ∈ L, x.1 ≠ gy ∧ x.1 ≠ gt)
    (who seq held : Int) (stale : Bool) (sl : Value) (t : TpD) (hs : sl.oneCell' = true) :
    VX w0 w B c v L ∧
    ∃ w4, (stV 34 ⟨gy, 0, none⟩ (.agg (rvA c who seq held stale))).run Try.prog w = .ok () w4 ∧ VX w0 w4 B c v L ∧
    ∃ w5, (stV 47 ⟨gt, 0, none⟩ (.agg (tpA sl t))).run Try.prog w4 = .ok () w5 ∧
      VX w0 w5 B c v ((gt, 47, tpA sl t) :: (gy, 34, rvA c who seq held stale) :: L) := by
  obtain ⟨w4, s4, v4, _⟩ := h.put (ty := 34) (new := rvA c who seq held stale) h1 (fun x hx => by
    rcases List.mem_cons.1 hx with rfl | hx
    · exact hne.symm
    · exact (hL x hx).1) (by kernel_rfl) rfl (rvA_one _ _ _ _ _)
  obtain ⟨w5, s5, v5, _⟩ := v4.swap.put (ty := 47) (new := tpA sl t) h2 (fun x hx => by
    rcases List.mem_cons.1 hx with rfl | hx
    · exact hne
    · exact (hL x hx).2) (by kernel_rfl) rfl (tpA_one _ _ hs)
  exact ⟨h.tail.tail, w4, s4, v4.tail.tail, w5, s5, v5⟩
/-- What a region over the document's view and a reading loads. -/
@[reducible] def SV (gx gr : Nat) (c : CfgD) (who seq : Int) (x : XvD) (qk qa qb : Int) (W : World) : Prop :=
  (ldRv ⟨gx, 0, none⟩).run Try.prog W = .ok (.agg (rvA c who seq x.held x.stale)) W ∧ W.cell? ⟨gr, 0, none⟩ = some (.int .i64 qk) ∧ W.cell? ⟨gr, 1, none⟩ = some (.int .i64 qa) ∧ W.cell? ⟨gr, 2, none⟩ = some (.int .i64 qb)
theorem VX.sv {w0 w : World} {B : Nat} {c : CfgD} {v : VwD} {L : List (Nat × TypeId × Array Value)} {gx gr : Nat} {who seq : Int} {x : XvD} {qk qa qb : Int} (h : VX w0 w B c v L) (h1 : (gx, 34, rvA c who seq x.held x.stale) ∈ L) (h2 : (gr, 38, #[.int .i64 qk, .int .i64 qa, .int .i64 qb]) ∈ L) : SV gx gr c who seq x qk qa qb w :=
  ⟨ldRv_blk (h.blks _ h1).1 rfl, (h.blks _ h2).1.cell 0, (h.blks _ h2).1.cell 1, (h.blks _ h2).1.cell 2⟩
/-- The document's view becomes what was read. -/
theorem VX.turnX {w0 w : World} {B : Nat} {c : CfgD} {v : VwD} {L : List (Nat × TypeId × Array Value)} {gx : Nat} {cs new : Array Value} (h : VX w0 w B c v ((gx, 34, cs) :: L)) (hg : w0.heap.size ≤ gx) (hL : ∀ x ∈ L, x.1 ≠ gx) (hs : cs.size = 10) (hn : new.size = 10) (h1 : new.all (·.oneCell') = true) :
    ∃ w', (stV 34 ⟨gx, 0, none⟩ (.agg new)).run Try.prog w = .ok () w' ∧ VX w0 w' B c v ((gx, 34, new) :: L) := by
  obtain ⟨w', a, b, _⟩ := h.put (ty := 34) (new := new) hg hL (by rw [hn]; kernel_rfl) (by rw [hs, hn]) h1
  exact ⟨w', a, b⟩
end Go.Proofs.Ythjkodjpopcjaaa
