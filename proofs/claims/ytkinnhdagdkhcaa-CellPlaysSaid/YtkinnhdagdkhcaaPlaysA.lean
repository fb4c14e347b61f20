/- CellPlays: the document's own functions: New, Check, Becomes. -/
import Derived.Test.YtkinnhdagdkhcaaClonesW
namespace Go.Proofs.Ytkinnhdagdkhcaa
open Go.RowKit

/-- The document's memory: its cells and its trace. -/
structure XRep (w : World) (CA : Option Addr) (cc : Nat) (EA : Option Addr) (ec : Nat) (cs : List (Int × Int)) (E : List EvD) : Prop where
  cells : w.ownsRow 0 35 2 (.slice CA cs.length cc) cs.length (flat cs)
  trace : w.ownsRow 0 57 10 (.slice EA E.length ec) E.length (flatE E)
theorem XRep.kept {w w' : World} {CA : Option Addr} {cc : Nat} {EA : Option Addr} {ec : Nat} {cs : List (Int × Int)} {E : List EvD} (h : XRep w CA cc EA ec cs E) (k : Kept (fun _ => False) w w') : XRep w' CA cc EA ec cs E :=
  ⟨k.own h.cells (fun _ _ h => h), k.own h.trace (fun _ _ h => h)⟩
/-- Its value. -/
def xV (CA : Option Addr) (n cc : Nat) (EA : Option Addr) (k ec : Nat) : Value := .agg #[.slice CA n cc, .slice EA k ec]

set_option maxHeartbeats 1000000 in
theorem becomes_calls (c : Int × Int) (k i : Int) (o n : Int × Int) (w : World) (h0 : 0 ≤ k) (h3 : k ≤ 3) :
    Calls Try.prog 26 #[cellV c, opV k i o n] w fun e w' => e = .returned (cellV (becomes c k o n).1) ∧ Kept (fun _ => False) w w' := by
  have hqe := run_cell_eql
  rcases (by omega : k = 0 ∨ k = 1 ∨ k = 2 ∨ k = 3) with rfl | rfl | rfl | rfl
  · unfold cellV opV
    go_enter Try.func26, Try.ntmps26
    go_wp2
    exact bodyPost_ret (v := cellV c) (by simp [results, Try.results26, go_sem, cellV]) rfl ⟨by simp [becomes, cellV], by repeat' (first | exact Kept.refl _ _ | apply Kept.alloc)⟩
  · unfold cellV opV
    go_enter Try.func26, Try.ntmps26
    go_wp2
    exact bodyPost_ret (v := cellV n) (by simp [results, Try.results26, go_sem, cellV]) rfl ⟨by simp [becomes, cellV], by repeat' (first | exact Kept.refl _ _ | apply Kept.alloc)⟩
  · by_cases hc : c = o
    · have hb := (cellEq_iff c o).2 hc
      have HH := Lib.hid hc
      clear hc
      unfold cellV opV
      go_enter Try.func26, Try.ntmps26
      go_wp2
      exact bodyPost_ret (v := cellV n) (by simp [results, Try.results26, go_sem, cellV]) rfl ⟨by simp [becomes, cellV, HH.out], by repeat' (first | exact Kept.refl _ _ | apply Kept.alloc)⟩
    · have hb := cellEq_not hc
      have HH := Lib.hid hc
      clear hc
      unfold cellV opV
      go_enter Try.func26, Try.ntmps26
      go_wp2
      exact bodyPost_ret (v := cellV c) (by simp [results, Try.results26, go_sem, cellV]) rfl ⟨by simp [becomes, cellV, HH.out], by repeat' (first | exact Kept.refl _ _ | apply Kept.alloc)⟩
  · unfold cellV opV
    go_enter Try.func26, Try.ntmps26
    go_wp2
    exact bodyPost_ret (v := cellV (IntKind.u64.wrap (c.1 + n.1), c.2)) (by simp [results, Try.results26, go_sem, cellV]) rfl ⟨by simp [becomes, cellV], by repeat' (first | exact Kept.refl _ _ | apply Kept.alloc)⟩

set_option maxHeartbeats 1000000 in
theorem check_calls (CA : Option Addr) (m cc : Nat) (EA : Option Addr) (te ec : Nat) (cs : List (Int × Int)) (hm : cs.length = m) (who k i : Int) (o n : Int × Int) (w : World) :
    Calls Try.prog 25 #[xV CA m cc EA te ec, .int .i64 who, opV k i o n] w fun e w' => e = .returned (.int .i64 (doErr cs who k i)) ∧ Kept (fun _ => False) w w' := by
  subst hm
  unfold xV opV
  by_cases h1 : who < 0 ∨ 8 ≤ who
  · have hd : doErr cs who k i = 1 := by unfold doErr; rw [if_pos h1]
    rw [hd]
    clear hd
    rcases h1 with h | h
    · go_enter Try.func25, Try.ntmps25
      go_wp2
      go_ret
      exact ⟨rfl, by repeat' (first | exact Kept.refl _ _ | apply Kept.alloc)⟩
    · have h' : ¬ who < 0 := by omega
      go_enter Try.func25, Try.ntmps25
      go_wp2
      go_ret
      exact ⟨rfl, by repeat' (first | exact Kept.refl _ _ | apply Kept.alloc)⟩
  · have a1 : ¬ who < 0 := by omega
    have a2 : ¬ 7 < who := by omega
    by_cases h2 : k < 0 ∨ 3 < k
    · have hd : doErr cs who k i = 32 := by unfold doErr; rw [if_neg h1, if_pos h2]
      rw [hd]
      clear hd h1
      rcases h2 with h | h
      · go_enter Try.func25, Try.ntmps25
        go_wp2
        go_ret
        exact ⟨rfl, by repeat' (first | exact Kept.refl _ _ | apply Kept.alloc)⟩
      · have h' : ¬ k < 0 := by omega
        go_enter Try.func25, Try.ntmps25
        go_wp2
        go_ret
        exact ⟨rfl, by repeat' (first | exact Kept.refl _ _ | apply Kept.alloc)⟩
    · have b1 : ¬ k < 0 := by omega
      have b2 : ¬ 3 < k := by omega
      by_cases h3 : i < 0 ∨ (cs.length : Int) ≤ i
      · have hd : doErr cs who k i = 31 := by unfold doErr; rw [if_neg h1, if_neg h2, if_pos h3]
        rw [hd]
        clear hd h1 h2
        rcases h3 with h | h
        · go_enter Try.func25, Try.ntmps25
          go_wp2
          go_ret
          exact ⟨rfl, by repeat' (first | exact Kept.refl _ _ | apply Kept.alloc)⟩
        · have h' : ¬ i < 0 := by omega
          go_enter Try.func25, Try.ntmps25
          go_wp2
          go_ret
          exact ⟨rfl, by repeat' (first | exact Kept.refl _ _ | apply Kept.alloc)⟩
      · have hd : doErr cs who k i = 0 := by unfold doErr; rw [if_neg h1, if_neg h2, if_neg h3]
        rw [hd]
        clear hd
        have c1 : ¬ i < 0 := by omega
        have c2 : ¬ (cs.length : Int) ≤ i := by omega
        clear h1 h2 h3
        go_enter Try.func25, Try.ntmps25
        go_wp2
        go_ret
        exact ⟨rfl, by repeat' (first | exact Kept.refl _ _ | apply Kept.alloc)⟩

set_option maxHeartbeats 1000000 in
theorem refNew_calls (n : Nat) (hn : n ≤ 65536) (w : World) :
    Calls Try.prog 11 #[.int .i64 (n : Int)] w fun e w' => ∃ CA cc, e = .returned (xV CA n cc none 0 0) ∧ XRep w' CA cc none 0 (List.replicate n (0, 0)) [] ∧ Kept (fun _ => False) w w' ∧ (∀ x, CA = some x → w.heap.size ≤ x.block) := by
  obtain ⟨i0, hi0, hz0, hz1, hz2⟩ := info_parts Try.infoCell
  have hmk : ∀ W : World, (Instr.makeSlice 28 (.int .i64 (n : Int)) (.int .i64 (n : Int))).run Try.prog W = .ok (.slice (some ⟨W.heap.size, 0, none⟩) n n) (W.alloc (.cells (madeCells (Value.agg #[.int .u64 0, .int .u64 0]).cells (n * 2)) 35)) := fun W => by
    have h := run_make (P := Try.prog) W 28 35 i0 _ Try.underlying28 hi0 hz0 .i64 .i64 (n : Int) (n : Int) (by omega) (by omega) (by rw [hz2]; omega) (by omega)
    simpa [hz1] using h
  clear hi0 hz0 hz1 hz2
  obtain ⟨Z, hZ⟩ : ∃ Z, Z = madeCells (Value.agg #[.int .u64 0, .int .u64 0]).cells (n * 2) := ⟨_, rfl⟩
  rw [← hZ] at hmk
  have HZ := Lib.hid hZ
  clear hZ
  go_enter Try.func11, Try.ntmps11
  go_wp2
  have hR : RowC ((w.alloc (.cells #[.slice (some ⟨w.heap.size + 1, 0, none⟩) n n, .slice none 0 0] 31)).alloc (.cells Z 35)) (w.heap.size + 1) n (List.replicate n (0, 0)) := by
    refine ⟨Z, Blk.new' _ _ _ _ (by simp), by simp, by simp [maxLen]; omega, by rw [HZ.out]; simp [madeCells], ?_⟩
    rw [HZ.out, ← madeCells_cells]
    apply List.take_of_length_le
    simp [madeCells]
  exact bodyPost_ret (v := xV (some ⟨w.heap.size + 1, 0, none⟩) n n none 0 0) (by simp [results, Try.results11, go_sem, xV]) rfl ⟨_, _, rfl, ⟨hR.own, World.ownsRow_nil _ _ _ _⟩, by repeat' (first | exact Kept.refl _ _ | apply Kept.alloc), fun x hx => by injection hx with hx; subst hx; exact Nat.le_succ _⟩

end Go.Proofs.Ytkinnhdagdkhcaa
