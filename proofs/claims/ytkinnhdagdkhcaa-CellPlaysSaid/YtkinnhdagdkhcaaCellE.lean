/- Layer 1 (cell): Do's errors, Set, Peek of no cell, New. -/
import Derived.Test.YtkinnhdagdkhcaaCellC
import Derived.Laws.MakeOwn
namespace Go.Proofs.Ytkinnhdagdkhcaa
open Go.RowKit

set_option maxHeartbeats 400000 in
theorem do_who (w : World) (b : Nat) (who k i : Int) (o n : Int × Int) (h : who < 0 ∨ 8 ≤ who) :
    Calls Try.prog 12 #[.pointer (some ⟨b, 0, none⟩), .int .i64 who, opV k i o n] w fun e w' => e = .returned (.tuple #[outV (0, 0) false, .int .i64 1]) ∧ Below w.heap.size w w' := by
  unfold opV
  go_enter Try.func12, Try.ntmps12
  go_wp2_with (go_at_call 22; refine (isThread_no _ _ h).mono ?_; rintro e w' ⟨rfl, rfl⟩)
  exact bodyPost_ret (v := .tuple #[outV (0, 0) false, .int .i64 1]) (by simp [results, Try.results12, go_sem, outV]) rfl ⟨rfl, ((Below.refl _ _).alloc (Nat.le_refl _) _).alloc (by simp) _⟩

set_option maxHeartbeats 400000 in
theorem do_kind (w : World) (b : Nat) (who k i : Int) (o n : Int × Int) (h0 : 0 ≤ who) (h8 : who < 8) (h : k < 0 ∨ 3 < k) :
    Calls Try.prog 12 #[.pointer (some ⟨b, 0, none⟩), .int .i64 who, opV k i o n] w fun e w' => e = .returned (.tuple #[outV (0, 0) false, .int .i64 32]) ∧ Below w.heap.size w w' := by
  unfold opV
  have hk : (decide (k < 0) || decide (3 < k)) = true := by simp; omega
  rcases h with h | h
  · go_enter Try.func12, Try.ntmps12
    go_wp2_with (go_at_call 22; refine (isThread_yes _ _ h0 h8).mono ?_; rintro e w' ⟨rfl, rfl⟩)
    exact bodyPost_ret (v := .tuple #[outV (0, 0) false, .int .i64 32]) (by simp [results, Try.results12, go_sem, outV]) rfl ⟨rfl, ((Below.refl _ _).alloc (Nat.le_refl _) _).alloc (by simp) _⟩
  · have h' : ¬ k < 0 := by omega
    go_enter Try.func12, Try.ntmps12
    go_wp2_with (go_at_call 22; refine (isThread_yes _ _ h0 h8).mono ?_; rintro e w' ⟨rfl, rfl⟩)
    exact bodyPost_ret (v := .tuple #[outV (0, 0) false, .int .i64 32]) (by simp [results, Try.results12, go_sem, outV]) rfl ⟨rfl, ((Below.refl _ _).alloc (Nat.le_refl _) _).alloc (by simp) _⟩

set_option maxHeartbeats 400000 in
theorem do_at (w : World) (b : Nat) (who k i : Int) (o n : Int × Int) (A : Option Addr) (len cap : Nat) (h0 : 0 ≤ who) (h8 : who < 8) (hk0 : 0 ≤ k) (hk3 : k ≤ 3) (hc0 : w.cell? ⟨b, 0, none⟩ = some (.slice A len cap)) (h : i < 0 ∨ (len : Int) ≤ i) :
    Calls Try.prog 12 #[.pointer (some ⟨b, 0, none⟩), .int .i64 who, opV k i o n] w fun e w' => e = .returned (.tuple #[outV (0, 0) false, .int .i64 31]) ∧ Below w.heap.size w w' := by
  unfold opV
  have hbs := World.block_lt_of_cell? w _ hc0
  have hbs' : b < w.heap.size := hbs
  have hk : (decide (k < 0) || decide (3 < k)) = false := by simp; omega
  go_enter Try.func12, Try.ntmps12
  go_wp2_with (first
    | (go_at_call 22; refine (isThread_yes _ _ h0 h8).mono ?_; rintro e w' ⟨rfl, rfl⟩)
    | (go_at_call 23; refine (has_no _ _ _ A len cap (by rw [World.cell?_alloc_past _ _ _ (by simp; omega), World.cell?_alloc_past _ _ _ hbs']; exact hc0) h).mono ?_; rintro e w' ⟨rfl, rfl⟩))
  exact bodyPost_ret (v := .tuple #[outV (0, 0) false, .int .i64 31]) (by simp [results, Try.results12, go_sem, outV]) rfl ⟨rfl, ((Below.refl _ _).alloc (Nat.le_refl _) _).alloc (by simp) _⟩

set_option maxHeartbeats 400000 in
theorem peek_no (w : World) (b : Nat) (i : Int) (A : Option Addr) (n c : Nat) (h0 : w.cell? ⟨b, 0, none⟩ = some (.slice A n c)) (hi : i < 0 ∨ (n : Int) ≤ i) :
    Calls Try.prog 14 #[.pointer (some ⟨b, 0, none⟩), .int .i64 i] w fun e w' => e = .returned (.tuple #[cellV (0, 0), .bool false]) ∧ Below w.heap.size w w' := by
  have hb : b < w.heap.size := World.block_lt_of_cell? w _ h0
  go_enter Try.func14, Try.ntmps14
  go_wp2_with (go_at_call 23; refine (has_no _ _ _ A n c (by rw [World.cell?_alloc_past _ _ _ hb]; exact h0) hi).mono ?_; rintro e w' ⟨rfl, rfl⟩)
  exact bodyPost_ret (v := .tuple #[cellV (0, 0), .bool false]) (by simp [results, Try.results14, go_sem, cellV]) rfl ⟨rfl, ((Below.refl _ _).alloc (Nat.le_refl _) _)⟩

set_option maxHeartbeats 400000 in
theorem set_no (w : World) (b : Nat) (i : Int) (q : Int × Int) (A : Option Addr) (n c : Nat) (h0 : w.cell? ⟨b, 0, none⟩ = some (.slice A n c)) (hi : i < 0 ∨ (n : Int) ≤ i) :
    Calls Try.prog 18 #[.pointer (some ⟨b, 0, none⟩), .int .i64 i, cellV q] w fun e w' => e = .returned (.int .i64 31) ∧ Below w.heap.size w w' := by
  have hb : b < w.heap.size := World.block_lt_of_cell? w _ h0
  unfold cellV
  go_enter Try.func18, Try.ntmps18
  go_wp2_with (go_at_call 23; refine (has_no _ _ _ A n c (by rw [World.cell?_alloc_past _ _ _ hb]; exact h0) hi).mono ?_; rintro e w' ⟨rfl, rfl⟩)
  go_ret
  exact ⟨rfl, ((Below.refl _ _).alloc (Nat.le_refl _) _)⟩

set_option maxHeartbeats 400000 in
theorem set_walk (w : World) (b g i n c : Nat) (p q : Int × Int) (cur : Array Value) (hB : Blk w b 65 cur) (h0 : w.cell? ⟨b, 0, none⟩ = some (.slice (some ⟨g, 0, none⟩) n c)) (hi : i < n) (curg : Array Value) (hb : Blk w g 35 curg)
    (hc0 : curg[i * 2]? = some (.int .u64 p.1)) (hc1 : curg[i * 2 + 1]? = some (.int .u64 p.2)) :
    Calls Try.prog 18 #[.pointer (some ⟨b, 0, none⟩), .int .i64 (i : Int), cellV q] w fun e w' => e = .returned (.int .i64 0) ∧ Turned w w' g 35 ((curg.setIfInBounds (i * 2) (.int .u64 q.1)).setIfInBounds (i * 2 + 1) (.int .u64 q.2)) := by
  have hbs : b < w.heap.size := hB.lt
  unfold cellV
  have hg := hb.lt
  have hg1 : g < w.heap.size + 1 := by omega
  have hd0 := (hb.cell (i * 2)).trans hc0
  have hd1 := (hb.cell (i * 2 + 1)).trans hc1
  have hf0 := hb.frozen (i * 2)
  have hf1 := hb.frozen (i * 2 + 1)
  have HB := Lib.hid hb
  clear hb hc0 hc1 hB
  go_enter Try.func18, Try.ntmps18
  go_wp2_with (go_at_call 23; refine (has_yes _ _ _ (some ⟨g, 0, none⟩) n c (by rw [World.cell?_alloc_past _ _ _ hbs]; exact h0) (by omega) (by omega)).mono ?_; rintro e w' ⟨rfl, rfl⟩)
  go_region
  go_wp2
  go_ret
  exact ⟨rfl, by repeat' (first | exact HB.out | apply Blk.alloc | apply Blk.drew | apply Blk.set_), by repeat' (first | exact Kept.refl _ _ | apply Kept.alloc | apply Kept.drew | apply Kept.setAt)⟩

theorem set_yes (w : World) (b g cap : Nat) (ev : Value) (cs : List (Int × Int)) (s : Fin 8 → Int) (es : List Value) (m : Nat) (M : IsMem w b g cap ev cs s es m) (i : Nat) (q : Int × Int) (hi : i < cs.length) :
    Calls Try.prog 18 #[.pointer (some ⟨b, 0, none⟩), .int .i64 (i : Int), cellV q] w fun e w' => e = .returned (.int .i64 0) ∧ IsMem w' b g cap ev (cs.set i q) s es m ∧ Kept (fun x => x = g) w w' := by
  obtain ⟨cur, hb, hl, hm, hs, ht⟩ := M.row
  have hp : cs[i]? = some cs[i] := List.getElem?_eq_getElem hi
  obtain ⟨hc0, hc1⟩ := RowC.at_ ht hp
  refine (set_walk w b g i cs.length cap cs[i] q _ M.blk M.blk.m0 hi cur hb hc0 hc1).mono fun e w' ⟨he, hw⟩ => ⟨he, ⟨?_, ⟨_, hw.1, by simpa using hl, hm, by simpa using hs, RowC.set_ ht hi q⟩, ?_⟩, hw.2⟩
  · rw [List.length_set]
    exact hw.2.blk M.blk (M.blk.ne_ hb (by decide))
  · exact hw.2.own M.evs (fun x hx => by
      rcases M.evs.2 with ⟨rfl, _⟩ | ⟨g', c', cur', rfl, _, hh, _⟩
      · simp [Value.ownBlock] at hx
      · simp [Value.ownBlock] at hx
        subst hx
        exact Blk.ne_ (t := 57) hh hb (by decide))

theorem peek_at (w : World) (b g cap : Nat) (ev : Value) (cs : List (Int × Int)) (s : Fin 8 → Int) (es : List Value) (m : Nat) (M : IsMem w b g cap ev cs s es m) (i : Nat) (p : Int × Int) (hp : cs[i]? = some p) :
    Calls Try.prog 14 #[.pointer (some ⟨b, 0, none⟩), .int .i64 (i : Int)] w fun e w' => e = .returned (.tuple #[cellV p, .bool true]) ∧ Below w.heap.size w w' := by
  obtain ⟨cur, hb, hl, hm, hs, ht⟩ := M.row
  obtain ⟨hc0, hc1⟩ := RowC.at_ ht hp
  exact peek_yes w b g i cs.length cap p M.blk.lt hb.lt M.blk.m0 (List.getElem?_eq_some_iff.1 hp).1 ((hb.cell _).trans hc0) ((hb.cell _).trans hc1)

theorem Try.infoCell : (Try.prog.info? 35).map (fun i => (i.zero, i.size, i.bytes)) = some (some (.agg #[.int .u64 0, .int .u64 0]), 2, 16) := by kernel_rfl

theorem madeCells_cells (n : Nat) : (madeCells (Value.agg #[.int .u64 0, .int .u64 0]).cells (n * 2)).toList = flat (List.replicate n (0, 0)) := by
  have h : ∀ m : Nat, (madeCells (Value.agg #[.int .u64 0, .int .u64 0]).cells m).toList = List.replicate m (.int .u64 0) := by
    intro m
    apply List.ext_getElem
    · simp [madeCells]
    · intro i h1 h2
      simp [madeCells, Value.cells]
      rcases (by omega : i % 2 = 0 ∨ i % 2 = 1) with h | h <;> simp [h]
  rw [h]
  induction n with
  | zero => rfl
  | succ n ih =>
    rw [Nat.succ_mul, List.replicate_succ (n := n), flat, ← ih]
    rfl

set_option maxHeartbeats 400000 in
theorem new_yes (n : Nat) (hn : n ≤ 65536) (w : World) :
    Calls Try.prog 10 #[.int .i64 (n : Int)] w fun e w' => e = .returned (.tuple #[.pointer (some ⟨w.heap.size + 1, 0, none⟩), .int .i64 0]) ∧
      IsMem w' (w.heap.size + 1) w.heap.size n (.slice none 0 0) (List.replicate n (0, 0)) (fun _ => 0) [] 0 ∧ Kept (fun _ => False) w w' := by
  obtain ⟨i0, hi0, hz0, hz1, hz2⟩ := info_parts Try.infoCell
  have hmk : ∀ W : World, (Instr.makeSlice 28 (.int .i64 (n : Int)) (.int .i64 (n : Int))).run Try.prog W = .ok (.slice (some ⟨W.heap.size, 0, none⟩) n n) (W.alloc (.cells (madeCells (Value.agg #[.int .u64 0, .int .u64 0]).cells (n * 2)) 35)) := fun W => by
    have h := run_make (P := Try.prog) W 28 35 i0 _ Try.underlying28 hi0 hz0 .i64 .i64 (n : Int) (n : Int) (by omega) (by omega) (by rw [hz2]; omega) (by omega)
    simpa [hz1] using h
  have hlt : ¬ (65536 : Int) < (n : Int) := by omega
  have hsz : (decide ((n : Int) < 0) || decide (65536 < (n : Int))) = false := by simp; omega
  clear hi0 hz0 hz1 hz2
  obtain ⟨Z, hZ⟩ : ∃ Z, Z = madeCells (Value.agg #[.int .u64 0, .int .u64 0]).cells (n * 2) := ⟨_, rfl⟩
  rw [← hZ] at hmk
  have HZ := Lib.hid hZ
  clear hZ
  go_enter Try.func10, Try.ntmps10
  go_wp2
  go_ret2
  refine ⟨rfl, ⟨?_, ⟨Z, ?_, by simp, by simp [maxLen]; omega, by rw [HZ.out]; simp [madeCells], ?_⟩, World.ownsRow_nil _ _ _ _⟩, by repeat' (first | exact Kept.refl _ _ | apply Kept.alloc)⟩
  · simp only [List.length_replicate]
    exact Blk.new' _ _ _ _ (by simp)
  · exact (Blk.new _ _ _).alloc _
  · rw [HZ.out, ← madeCells_cells]
    apply List.take_of_length_le
    simp [madeCells]

set_option maxHeartbeats 400000 in
theorem new_no (n : Int) (hn : n < 0 ∨ 65536 < n) (w : World) :
    Calls Try.prog 10 #[.int .i64 n] w fun e w' => e = .returned (.tuple #[.pointer none, .int .i64 1]) ∧ w' = w := by
  rcases hn with h | h
  · go_enter Try.func10, Try.ntmps10
    go_wp2
    go_ret2
    exact ⟨rfl, rfl⟩
  · have h' : ¬ n < 0 := by omega
    go_enter Try.func10, Try.ntmps10
    go_wp2
    go_ret2
    exact ⟨rfl, rfl⟩

end Go.Proofs.Ytkinnhdagdkhcaa
