/- Layer 1 (cell) as layer 7 uses it: a memory that was just made; Set, Peek, Size, Total. -/
import Derived.Test.YtlpmgbimffmmkaaRow
import Derived.RegionTactic
import Derived.ChangeAlike
import Derived.Lib.Hide
import Derived.Laws.MakeOwn
namespace Go.Proofs.Ytlpmgbimffmmkaa
open Go.RowKit

/-- The value in memory of a cell.Mem: its cells' slice, eight counts, its events' slice. -/
def memArr (cv ev : Value) (s : Fin 8 → Int) : Array Value :=
  #[cv, .int .i64 (s 0), .int .i64 (s 1), .int .i64 (s 2), .int .i64 (s 3), .int .i64 (s 4), .int .i64 (s 5), .int .i64 (s 6), .int .i64 (s 7), ev]


section
variable {w : World} {b : Nat} {cv ev : Value} {s : Fin 8 → Int}
theorem Blk.m0 (h : Blk w b 97 (memArr cv ev s)) : w.cell? ⟨b, 0, none⟩ = some cv := h.cell 0
theorem Blk.m9 (h : Blk w b 97 (memArr cv ev s)) : w.cell? ⟨b, 9, none⟩ = some ev := h.cell 9
end

set_option maxHeartbeats 400000 in
theorem has_yes (i : Int) (w : World) (b : Nat) (A : Option Addr) (n c : Nat) (h0 : w.cell? ⟨b, 0, none⟩ = some (.slice A n c)) (h1 : 0 ≤ i) (h2 : i < n) :
    Calls Try.prog 58 #[.pointer (some ⟨b, 0, none⟩), .int .i64 i] w fun e w' => e = .returned (.bool true) ∧ w' = w := by
  go_enter Try.func58, Try.ntmps58
  go_wp2
  go_ret
  exact ⟨by simp, rfl⟩

set_option maxHeartbeats 400000 in
theorem has_no (i : Int) (w : World) (b : Nat) (A : Option Addr) (n c : Nat) (h0 : w.cell? ⟨b, 0, none⟩ = some (.slice A n c)) (h : i < 0 ∨ (n : Int) ≤ i) :
    Calls Try.prog 58 #[.pointer (some ⟨b, 0, none⟩), .int .i64 i] w fun e w' => e = .returned (.bool false) ∧ w' = w := by
  rcases h with h | h
  · go_enter Try.func58, Try.ntmps58
    go_wp2
    go_ret
    exact ⟨by simp, rfl⟩
  · have h0 : 0 ≤ i := by omega
    go_enter Try.func58, Try.ntmps58
    go_wp2
    go_ret
    exact ⟨by simp [h], rfl⟩

set_option maxHeartbeats 400000 in
theorem memSize_calls (w : World) (b : Nat) (A : Option Addr) (n c : Nat) (h0 : w.cell? ⟨b, 0, none⟩ = some (.slice A n c)) :
    Calls Try.prog 31 #[.pointer (some ⟨b, 0, none⟩)] w fun e w' => e = .returned (.int .i64 n) ∧ w' = w := by
  go_enter Try.func31, Try.ntmps31
  go_wp2
  go_ret
  exact ⟨rfl, rfl⟩

set_option maxHeartbeats 400000 in
theorem total_calls (w : World) (b : Nat) (A : Option Addr) (n c : Nat) (h9 : w.cell? ⟨b, 9, none⟩ = some (.slice A n c)) :
    Calls Try.prog 32 #[.pointer (some ⟨b, 0, none⟩)] w fun e w' => e = .returned (.int .i64 n) ∧ w' = w := by
  go_enter Try.func32, Try.ntmps32
  go_wp2
  go_ret
  exact ⟨rfl, rfl⟩

/-- A cell of the memory, as a value. -/
def cellV (p : Int × Int) : Value := .agg #[.int .u64 p.1, .int .u64 p.2]

set_option maxHeartbeats 400000 in
theorem peek_yes (w : World) (b g : Nat) (i n c : Nat) (p : Int × Int) (hb : b < w.heap.size) (hg : g < w.heap.size) (h0 : w.cell? ⟨b, 0, none⟩ = some (.slice (some ⟨g, 0, none⟩) n c)) (hi : i < n)
    (hc0 : w.cell? ⟨g, i * 2, none⟩ = some (.int .u64 p.1)) (hc1 : w.cell? ⟨g, i * 2 + 1, none⟩ = some (.int .u64 p.2)) :
    Calls Try.prog 33 #[.pointer (some ⟨b, 0, none⟩), .int .i64 (i : Int)] w fun e w' => e = .returned (.tuple #[cellV p, .bool true]) ∧ Below w.heap.size w w' := by
  go_enter Try.func33, Try.ntmps33
  go_wp2_with (go_at_call 58; refine (has_yes _ _ _ (some ⟨g, 0, none⟩) n c (by rw [World.cell?_alloc_past _ _ _ hb]; exact h0) (by omega) (by omega)).mono ?_; rintro e w' ⟨rfl, rfl⟩)
  exact bodyPost_ret (v := .tuple #[cellV p, .bool true]) (by simp [results, Try.results33, go_sem, cellV]) rfl ⟨rfl, ((Below.refl _ _).alloc (Nat.le_refl _) _)⟩

def flat : List (Int × Int) → List Value
  | [] => []
  | p :: r => .int .u64 p.1 :: .int .u64 p.2 :: flat r
theorem flat_length (cs : List (Int × Int)) : (flat cs).length = cs.length * 2 := by
  induction cs with
  | nil => rfl
  | cons p r ih => simp [flat, ih]; omega
theorem flat_fst (cs : List (Int × Int)) : ∀ (i : Nat) (p : Int × Int), cs[i]? = some p → (flat cs)[i * 2]? = some (.int .u64 p.1) := by
  induction cs with
  | nil => intro i p h; simp at h
  | cons c r ih =>
    intro i p h
    cases i with
    | zero => simp at h; subst h; rfl
    | succ i => simp at h; have := ih i p h; rw [Nat.succ_mul]; simpa [flat] using this
theorem flat_snd (cs : List (Int × Int)) : ∀ (i : Nat) (p : Int × Int), cs[i]? = some p → (flat cs)[i * 2 + 1]? = some (.int .u64 p.2) := by
  induction cs with
  | nil => intro i p h; simp at h
  | cons c r ih =>
    intro i p h
    cases i with
    | zero => simp at h; subst h; rfl
    | succ i => simp at h; have := ih i p h; rw [Nat.succ_mul]; simpa [flat] using this
theorem flat_set (cs : List (Int × Int)) : ∀ (i : Nat) (q : Int × Int), flat (cs.set i q) = ((flat cs).set (i * 2) (.int .u64 q.1)).set (i * 2 + 1) (.int .u64 q.2) := by
  induction cs with
  | nil => intro i q; simp [flat]
  | cons c r ih =>
    intro i q
    cases i with
    | zero => simp [flat]
    | succ i => rw [Nat.succ_mul]; simp [flat, ih]

/-- The block g is a row of cells of a memory. -/
def RowC (w : World) (g cap : Nat) (cs : List (Int × Int)) : Prop :=
  ∃ cur, Blk w g 51 cur ∧ cs.length ≤ cap ∧ cap ≤ maxLen ∧ cur.size = cap * 2 ∧ cur.toList.take (cs.length * 2) = flat cs

theorem RowC.at_ {cs : List (Int × Int)} {cur : Array Value} (h : cur.toList.take (cs.length * 2) = flat cs) {i : Nat} {p : Int × Int} (hi : cs[i]? = some p) :
    cur[i * 2]? = some (.int .u64 p.1) ∧ cur[i * 2 + 1]? = some (.int .u64 p.2) := by
  have hl : i < cs.length := (List.getElem?_eq_some_iff.1 hi).1
  have h1 := flat_fst cs i p hi
  have h2 := flat_snd cs i p hi
  rw [← h, List.getElem?_take_of_lt (by omega)] at h1 h2
  exact ⟨by simpa using h1, by simpa using h2⟩

theorem RowC.set_ {cs : List (Int × Int)} {cur : Array Value} (h : cur.toList.take (cs.length * 2) = flat cs) {i : Nat} (_hi : i < cs.length) (q : Int × Int) :
    ((cur.setIfInBounds (i * 2) (.int .u64 q.1)).setIfInBounds (i * 2 + 1) (.int .u64 q.2)).toList.take ((cs.set i q).length * 2) = flat (cs.set i q) := by
  rw [flat_set, ← h]
  simp [List.take_set]

theorem set_same {cur : Array Value} {i : Nat} {v : Value} (h : cur[i]? = some v) : cur.setIfInBounds i v = cur := by
  obtain ⟨hi, rfl⟩ := Array.getElem?_eq_some_iff.1 h
  apply Array.ext
  · simp
  · intro j h1 h2
    by_cases hij : i = j
    · subst hij; simp
    · rw [Array.getElem_setIfInBounds_ne _ hij]
theorem setl_same {cs : List (Int × Int)} {i : Nat} {p : Int × Int} (h : cs[i]? = some p) : cs.set i p = cs := by
  obtain ⟨hi, rfl⟩ := List.getElem?_eq_some_iff.1 h
  exact List.set_getElem_self hi
/-- Only the block g is turned; it has become cur'. -/
def Turned (w w' : World) (g : Nat) (t : TypeId) (cur' : Array Value) : Prop := Blk w' g t cur' ∧ Kept (fun k => k = g) w w'
set_option maxHeartbeats 400000 in
theorem peek_no (w : World) (b : Nat) (i : Int) (A : Option Addr) (n c : Nat) (h0 : w.cell? ⟨b, 0, none⟩ = some (.slice A n c)) (hi : i < 0 ∨ (n : Int) ≤ i) :
    Calls Try.prog 33 #[.pointer (some ⟨b, 0, none⟩), .int .i64 i] w fun e w' => e = .returned (.tuple #[cellV (0, 0), .bool false]) ∧ Below w.heap.size w w' := by
  have hb : b < w.heap.size := World.block_lt_of_cell? w _ h0
  go_enter Try.func33, Try.ntmps33
  go_wp2_with (go_at_call 58; refine (has_no _ _ _ A n c (by rw [World.cell?_alloc_past _ _ _ hb]; exact h0) hi).mono ?_; rintro e w' ⟨rfl, rfl⟩)
  exact bodyPost_ret (v := .tuple #[cellV (0, 0), .bool false]) (by simp [results, Try.results33, go_sem, cellV]) rfl ⟨rfl, ((Below.refl _ _).alloc (Nat.le_refl _) _)⟩

set_option maxHeartbeats 400000 in
theorem set_no (w : World) (b : Nat) (i : Int) (q : Int × Int) (A : Option Addr) (n c : Nat) (h0 : w.cell? ⟨b, 0, none⟩ = some (.slice A n c)) (hi : i < 0 ∨ (n : Int) ≤ i) :
    Calls Try.prog 57 #[.pointer (some ⟨b, 0, none⟩), .int .i64 i, cellV q] w fun e w' => e = .returned (.int .i64 31) ∧ Below w.heap.size w w' := by
  have hb : b < w.heap.size := World.block_lt_of_cell? w _ h0
  unfold cellV
  go_enter Try.func57, Try.ntmps57
  go_wp2_with (go_at_call 58; refine (has_no _ _ _ A n c (by rw [World.cell?_alloc_past _ _ _ hb]; exact h0) hi).mono ?_; rintro e w' ⟨rfl, rfl⟩)
  go_ret
  exact ⟨rfl, ((Below.refl _ _).alloc (Nat.le_refl _) _)⟩

set_option maxHeartbeats 400000 in
theorem set_walk (w : World) (b g i n c : Nat) (p q : Int × Int) (cur : Array Value) (hB : Blk w b 97 cur) (h0 : w.cell? ⟨b, 0, none⟩ = some (.slice (some ⟨g, 0, none⟩) n c)) (hi : i < n) (curg : Array Value) (hb : Blk w g 51 curg)
    (hc0 : curg[i * 2]? = some (.int .u64 p.1)) (hc1 : curg[i * 2 + 1]? = some (.int .u64 p.2)) :
    Calls Try.prog 57 #[.pointer (some ⟨b, 0, none⟩), .int .i64 (i : Int), cellV q] w fun e w' => e = .returned (.int .i64 0) ∧ Turned w w' g 51 ((curg.setIfInBounds (i * 2) (.int .u64 q.1)).setIfInBounds (i * 2 + 1) (.int .u64 q.2)) := by
  have hbs : b < w.heap.size := hB.lt
  unfold cellV
  have hg := hb.lt
  have hg1 : g < w.heap.size + 1 := by omega
  have hd0 := (hb.cell (i * 2)).trans hc0
  have hd1 := (hb.cell (i * 2 + 1)).trans hc1
  have hf0 := hb.frozen (i * 2)
  have hf1 := hb.frozen (i * 2 + 1)
  have HB := Lib.hid hb
  clear hb hc0 hc1 hB
  go_enter Try.func57, Try.ntmps57
  go_wp2_with (go_at_call 58; refine (has_yes _ _ _ (some ⟨g, 0, none⟩) n c (by rw [World.cell?_alloc_past _ _ _ hbs]; exact h0) (by omega) (by omega)).mono ?_; rintro e w' ⟨rfl, rfl⟩)
  go_region
  go_wp2
  go_ret
  exact ⟨rfl, by repeat' (first | exact HB.out | apply Blk.alloc | apply Blk.drew | apply Blk.set_), by repeat' (first | exact Kept.refl _ _ | apply Kept.alloc | apply Kept.drew | apply Kept.setAt)⟩

theorem Try.infoCell : (Try.prog.info? 51).map (fun i => (i.zero, i.size, i.bytes)) = some (some (.agg #[.int .u64 0, .int .u64 0]), 2, 16) := by kernel_rfl

theorem madeCells_cells (n : Nat) : (madeCells (Value.agg #[.int .u64 0, .int .u64 0]).cells (n * 2)).toList = flat (List.replicate n (0, 0)) := by
  have h : ∀ m : Nat, (madeCells (Value.agg #[.int .u64 0, .int .u64 0]).cells m).toList = List.replicate m (.int .u64 0) := by
    intro m
    apply List.ext_getElem
    · simp [madeCells]
    · intro i h1 h2
      simp [madeCells, Value.cells]
      rcases (by omega : i % 2 = 0 ∨ i % 2 = 1) with h | h <;> simp [h]
  rw [h]
  induction n with
  | zero => rfl
  | succ n ih =>
    rw [Nat.succ_mul, List.replicate_succ (n := n), flat, ← ih]
    rfl


/-- A memory that nobody has done a step on. -/
structure MemL (w : World) (b g : Nat) (cs : List (Int × Int)) : Prop where
  blk : Blk w b 97 (memArr (.slice (some ⟨g, 0, none⟩) cs.length cs.length) (.slice none 0 0) (fun _ => 0))
  row : RowC w g cs.length cs

set_option maxHeartbeats 400000 in
theorem new_yes (n : Nat) (hn : n ≤ 65536) (w : World) :
    Calls Try.prog 56 #[.int .i64 (n : Int)] w fun e w' => e = .returned (.tuple #[.pointer (some ⟨w.heap.size + 1, 0, none⟩), .int .i64 0]) ∧
      MemL w' (w.heap.size + 1) w.heap.size (List.replicate n (0, 0)) ∧ Kept (fun _ => False) w w' := by
  obtain ⟨i0, hi0, hz0, hz1, hz2⟩ := info_parts Try.infoCell
  have hmk : ∀ W : World, (Instr.makeSlice 48 (.int .i64 (n : Int)) (.int .i64 (n : Int))).run Try.prog W = .ok (.slice (some ⟨W.heap.size, 0, none⟩) n n) (W.alloc (.cells (madeCells (Value.agg #[.int .u64 0, .int .u64 0]).cells (n * 2)) 51)) := fun W => by
    have h := run_make (P := Try.prog) W 48 51 i0 _ Try.underlying48 hi0 hz0 .i64 .i64 (n : Int) (n : Int) (by omega) (by omega) (by rw [hz2]; omega) (by omega)
    simpa [hz1] using h
  have hlt : ¬ (65536 : Int) < (n : Int) := by omega
  have hsz : (decide ((n : Int) < 0) || decide (65536 < (n : Int))) = false := by simp; omega
  clear hi0 hz0 hz1 hz2
  obtain ⟨Z, hZ⟩ : ∃ Z, Z = madeCells (Value.agg #[.int .u64 0, .int .u64 0]).cells (n * 2) := ⟨_, rfl⟩
  rw [← hZ] at hmk
  have HZ := Lib.hid hZ
  clear hZ
  go_enter Try.func56, Try.ntmps56
  go_wp2
  go_ret2
  refine ⟨rfl, ⟨?_, ⟨Z, ?_, by simp, by simp [maxLen]; omega, by rw [HZ.out]; simp [madeCells], ?_⟩⟩, by repeat' (first | exact Kept.refl _ _ | apply Kept.alloc)⟩
  · simp only [List.length_replicate]
    exact Blk.new' _ _ _ _ (by simp)
  · exact (Blk.new _ _ _).alloc _
  · rw [HZ.out, ← madeCells_cells]
    apply List.take_of_length_le
    simp [madeCells]

section
variable {w w' : World} {b g : Nat} {cs : List (Int × Int)}
theorem MemL.keep {S : Nat → Prop} (h : MemL w b g cs) (k : Kept S w w') (h1 : ¬ S b) (h2 : ¬ S g) : MemL w' b g cs :=
  ⟨k.blk h.blk h1, by obtain ⟨cur, hb, r⟩ := h.row; exact ⟨cur, k.blk hb h2, r⟩⟩
theorem MemL.kept (h : MemL w b g cs) (k : Kept (fun _ => False) w w') : MemL w' b g cs := h.keep k (fun h => h) (fun h => h)
theorem MemL.lt (h : MemL w b g cs) : b < w.heap.size := h.blk.lt
theorem MemL.g_lt (h : MemL w b g cs) : g < w.heap.size := by obtain ⟨cur, hb, _⟩ := h.row; exact hb.lt
theorem MemL.ne (h : MemL w b g cs) : b ≠ g := by
  obtain ⟨cur, hb, _⟩ := h.row
  exact h.blk.ne_ hb (by decide)
theorem MemL.far (h : MemL w b g cs) {k : Nat} {t : TypeId} {A : Array Value} (hk : Blk w k t A) (ht : t ≠ 51) : k ≠ g := by
  obtain ⟨cur, hb, _⟩ := h.row
  exact hk.ne_ hb ht
end
theorem set_yes {w : World} {b g : Nat} {cs : List (Int × Int)} (M : MemL w b g cs) (i : Nat) (q : Int × Int) (hi : i < cs.length) :
    Calls Try.prog 57 #[.pointer (some ⟨b, 0, none⟩), .int .i64 (i : Int), cellV q] w fun e w' => e = .returned (.int .i64 0) ∧ MemL w' b g (cs.set i q) ∧ Kept (fun x => x = g) w w' := by
  obtain ⟨cur, hb, hl, hm, hs, ht⟩ := M.row
  have hp : cs[i]? = some cs[i] := List.getElem?_eq_getElem hi
  obtain ⟨hc0, hc1⟩ := RowC.at_ ht hp
  refine (set_walk w b g i cs.length cs.length cs[i] q _ M.blk M.blk.m0 hi cur hb hc0 hc1).mono fun e w' ⟨he, hw⟩ => ⟨he, ⟨?_, ?_⟩, hw.2⟩
  · rw [List.length_set]
    exact hw.2.blk M.blk M.ne
  · rw [List.length_set]
    exact ⟨_, hw.1, by simp, hm, by simpa using hs, RowC.set_ ht hi q⟩
theorem peek_at {w : World} {b g : Nat} {cs : List (Int × Int)} (M : MemL w b g cs) (i : Nat) (p : Int × Int) (hp : cs[i]? = some p) :
    Calls Try.prog 33 #[.pointer (some ⟨b, 0, none⟩), .int .i64 (i : Int)] w fun e w' => e = .returned (.tuple #[cellV p, .bool true]) ∧ Kept (fun _ => False) w w' := by
  obtain ⟨cur, hb, hl, hm, hs, ht⟩ := M.row
  obtain ⟨hc0, hc1⟩ := RowC.at_ ht hp
  exact (peek_yes w b g i cs.length cs.length p M.blk.lt hb.lt M.blk.m0 (List.getElem?_eq_some_iff.1 hp).1 ((hb.cell _).trans hc0) ((hb.cell _).trans hc1)).mono fun e w' ⟨he, hb⟩ => ⟨he, (Kept.below hb).mono (fun k hk h => by omega)⟩
end Go.Proofs.Ytlpmgbimffmmkaa
