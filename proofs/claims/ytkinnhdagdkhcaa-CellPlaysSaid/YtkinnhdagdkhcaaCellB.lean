/- Layer 1 (cell): the walk of turn. -/
import Derived.Test.YtkinnhdagdkhcaaCellA
import Derived.RegionTactic
import Derived.ChangeAlike
import Derived.Lib.Hide
namespace Go.Proofs.Ytkinnhdagdkhcaa
open Go.RowKit

/-- A step, as a value. -/
def opV (k a : Int) (o n : Int × Int) : Value := .agg #[.int .i64 k, .int .i64 a, .int .u64 o.1, .int .u64 o.2, .int .u64 n.1, .int .u64 n.2]
def outV (p : Int × Int) (ok : Bool) : Value := .agg #[.int .u64 p.1, .int .u64 p.2, .bool ok]

set_option maxHeartbeats 400000 in
theorem turn_load (w : World) (g i : Nat) (a : Int) (o n p : Int × Int) (hg : g < w.heap.size)
    (hc0 : w.cell? ⟨g, i * 2, none⟩ = some (.int .u64 p.1)) (hc1 : w.cell? ⟨g, i * 2 + 1, none⟩ = some (.int .u64 p.2)) :
    Calls Try.prog 24 #[.pointer (some ⟨g, i * 2, none⟩), opV 0 a o n] w fun e w' => e = .returned (outV p true) ∧ Below w.heap.size w w' := by
  unfold opV
  go_enter Try.func24, Try.ntmps24
  go_wp2
  exact bodyPost_ret (v := outV p true) (by simp [results, Try.results24, go_sem, outV]) rfl ⟨rfl, ((((Below.refl _ _).alloc (Nat.le_refl _) _).alloc (by simp) _).alloc (by simp; omega) _)⟩


/-- Only the block g is turned; it has become cur'. -/
def Turned (w w' : World) (g : Nat) (t : TypeId) (cur' : Array Value) : Prop := Blk w' g t cur' ∧ Kept (fun k => k = g) w w'

set_option maxHeartbeats 400000 in
theorem turn_store (w : World) (g i : Nat) (cur : Array Value) (a : Int) (o n p : Int × Int) (hb : Blk w g 35 cur)
    (hc0 : cur[i * 2]? = some (.int .u64 p.1)) (hc1 : cur[i * 2 + 1]? = some (.int .u64 p.2)) :
    Calls Try.prog 24 #[.pointer (some ⟨g, i * 2, none⟩), opV 1 a o n] w fun e w' => e = .returned (outV p true) ∧ Turned w w' g 35 ((cur.setIfInBounds (i * 2) (.int .u64 n.1)).setIfInBounds (i * 2 + 1) (.int .u64 n.2)) := by
  unfold opV
  have hg := hb.lt
  have hg1 : g < w.heap.size + 1 := by omega
  have hg2 : g < w.heap.size + 1 + 1 := by omega
  have hd0 := (hb.cell (i * 2)).trans hc0
  have hd1 := (hb.cell (i * 2 + 1)).trans hc1
  have hf0 := hb.frozen (i * 2)
  have hf1 := hb.frozen (i * 2 + 1)
  have HB := Lib.hid hb
  clear hb hc0 hc1
  go_enter Try.func24, Try.ntmps24
  go_wp2
  exact bodyPost_ret (v := outV p true) (by simp [results, Try.results24, go_sem, outV]) rfl ⟨rfl, (((((HB.out).set_ _ _).set_ _ _).alloc _).alloc _).alloc _, by repeat' (first | exact Kept.refl _ _ | apply Kept.alloc | apply Kept.drew | apply Kept.setAt)⟩

set_option maxHeartbeats 400000 in
theorem turn_swap (w : World) (g i : Nat) (cur : Array Value) (a : Int) (n p : Int × Int) (hb : Blk w g 35 cur)
    (hc0 : cur[i * 2]? = some (.int .u64 p.1)) (hc1 : cur[i * 2 + 1]? = some (.int .u64 p.2)) :
    Calls Try.prog 24 #[.pointer (some ⟨g, i * 2, none⟩), opV 2 a p n] w fun e w' => e = .returned (outV p true) ∧ Turned w w' g 35 ((cur.setIfInBounds (i * 2) (.int .u64 n.1)).setIfInBounds (i * 2 + 1) (.int .u64 n.2)) := by
  unfold opV
  have hg := hb.lt
  have hg1 : g < w.heap.size + 1 := by omega
  have hg2 : g < w.heap.size + 1 + 1 := by omega
  have hd0 := (hb.cell (i * 2)).trans hc0
  have hd1 := (hb.cell (i * 2 + 1)).trans hc1
  have hf0 := hb.frozen (i * 2)
  have hf1 := hb.frozen (i * 2 + 1)
  have HB := Lib.hid hb
  clear hb hc0 hc1
  go_enter Try.func24, Try.ntmps24
  go_wp2
  go_region
  go_wp2
  exact bodyPost_ret (v := outV p true) (by simp [results, Try.results24, go_sem, outV]) rfl ⟨rfl, by repeat' (first | exact HB.out | apply Blk.alloc | apply Blk.drew | apply Blk.set_), by repeat' (first | exact Kept.refl _ _ | apply Kept.alloc | apply Kept.drew | apply Kept.setAt)⟩

set_option maxHeartbeats 400000 in
theorem turn_swapno (w : World) (g i : Nat) (cur : Array Value) (a : Int) (o n p : Int × Int) (hne : p ≠ o) (hb : Blk w g 35 cur)
    (hc0 : cur[i * 2]? = some (.int .u64 p.1)) (hc1 : cur[i * 2 + 1]? = some (.int .u64 p.2)) :
    Calls Try.prog 24 #[.pointer (some ⟨g, i * 2, none⟩), opV 2 a o n] w fun e w' => e = .returned (outV p false) ∧ Turned w w' g 35 cur := by
  unfold opV
  obtain ⟨p1, p2⟩ := p
  obtain ⟨o1, o2⟩ := o
  simp only at hc0 hc1
  have hg := hb.lt
  have hg1 : g < w.heap.size + 1 := by omega
  have hg2 : g < w.heap.size + 1 + 1 := by omega
  have hd0 := (hb.cell (i * 2)).trans hc0
  have hd1 := (hb.cell (i * 2 + 1)).trans hc1
  have hf0 := hb.frozen (i * 2)
  have hf1 := hb.frozen (i * 2 + 1)
  have HB := Lib.hid hb
  clear hb hc0 hc1
  by_cases h1 : p1 = o1
  · have h2 : ¬ p2 = o2 := fun h => hne (by rw [h1, h])
    clear hne
    subst h1
    go_enter Try.func24, Try.ntmps24
    go_wp2
    go_region
    go_wp2
    exact bodyPost_ret (v := outV (p1, p2) false) (by simp [results, Try.results24, go_sem, outV]) rfl ⟨rfl, by repeat' (first | exact HB.out | apply Blk.alloc | apply Blk.drew | apply Blk.set_), by repeat' (first | exact Kept.refl _ _ | apply Kept.alloc | apply Kept.drew | apply Kept.setAt)⟩
  · clear hne
    go_enter Try.func24, Try.ntmps24
    go_wp2
    go_region
    go_wp2
    exact bodyPost_ret (v := outV (p1, p2) false) (by simp [results, Try.results24, go_sem, outV]) rfl ⟨rfl, by repeat' (first | exact HB.out | apply Blk.alloc | apply Blk.drew | apply Blk.set_), by repeat' (first | exact Kept.refl _ _ | apply Kept.alloc | apply Kept.drew | apply Kept.setAt)⟩

set_option maxHeartbeats 400000 in
theorem turn_add (w : World) (g i : Nat) (cur : Array Value) (a : Int) (o n p : Int × Int) (hb : Blk w g 35 cur)
    (hc0 : cur[i * 2]? = some (.int .u64 p.1)) (hc1 : cur[i * 2 + 1]? = some (.int .u64 p.2)) :
    Calls Try.prog 24 #[.pointer (some ⟨g, i * 2, none⟩), opV 3 a o n] w fun e w' => e = .returned (outV p true) ∧ Turned w w' g 35 (cur.setIfInBounds (i * 2) (.int .u64 (IntKind.u64.wrap (p.1 + n.1)))) := by
  unfold opV
  have hg := hb.lt
  have hg1 : g < w.heap.size + 1 := by omega
  have hg2 : g < w.heap.size + 1 + 1 := by omega
  have hd0 := (hb.cell (i * 2)).trans hc0
  have hd1 := (hb.cell (i * 2 + 1)).trans hc1
  have hf0 := hb.frozen (i * 2)
  have hf1 := hb.frozen (i * 2 + 1)
  have HB := Lib.hid hb
  clear hb hc0 hc1
  go_enter Try.func24, Try.ntmps24
  go_wp2
  go_region
  go_wp2
  exact bodyPost_ret (v := outV p true) (by simp [results, Try.results24, go_sem, outV]) rfl ⟨rfl, by repeat' (first | exact HB.out | apply Blk.alloc | apply Blk.drew | apply Blk.set_), by repeat' (first | exact Kept.refl _ _ | apply Kept.alloc | apply Kept.drew | apply Kept.setAt)⟩

end Go.Proofs.Ytkinnhdagdkhcaa
