/- Layer 2 (glyph): the law's exact. -/
import Derived.Test.YtonihjijienigaaDoorGlS
import Derived.Test.YtonihjijienigaaDoorGlRb
import Derived.Test.YtonihjijienigaaDoorGlRh
namespace Go.Proofs.YtonihjijienigaaDoor
open Go.RowKit

theorem heap_drewN (W : World) (n : Nat) : (W.drewN n).heap = W.heap := rfl
set_option maxRecDepth 100000 in
set_option maxHeartbeats 2000000 in
theorem exact_calls (A B : Option Addr) (l : List Tok) (c d : Nat) (w : World) (hA : TokAt w A l) (hB : TokAt w B l) (hl : l.length ≤ 70000) :
    Calls Tryd.prog 12 #[.slice A l.length c, .slice B l.length d] w fun e w' => e = .returned (.bool true) ∧ Below w.heap.size w w' := by
  obtain ⟨n, hn⟩ : ∃ n, l.length = n := ⟨_, rfl⟩
  rw [hn]
  have HN := Lib.hid hn
  have HA := Lib.hid hA
  have HBB := Lib.hid hB
  have hn7 : n ≤ 70000 := by omega
  clear hn hA hB hl
  go_enter Tryd.func12, Tryd.ntmps12
  go_wp2
  go_loopw [14] (fun vk wr => ∃ (k : Nat), vk = .int .i64 (k : Int) ∧ Hid (k ≤ n) ∧ Hid (Below w.heap.size w wr))
    (fun vk _ => n - (intOf vk).toNat)
  case atStart => exact ⟨0, rfl, Lib.hid (by omega), Lib.hid (Below.refl _ w)⟩
  case round =>
    obtain ⟨k, rfl, HK, HB⟩ := hrel
    by_cases hk : k < n
    · have h1 := tok_cells (HA.out.on HB.out) (k := k) (by rw [HN.out]; exact hk)
      have h2 := tok_cells (HBB.out.on HB.out) (k := k) (by rw [HN.out]; exact hk)
      obtain ⟨b1, o1, rfl, hb1, p0, p1, p2, p3, p4⟩ := h1
      obtain ⟨b2, o2, rfl, hb2', q0, q1, q2, q3, q4⟩ := h2
      obtain ⟨T, hT⟩ : ∃ T, l[k]'(by rw [HN.out]; exact hk) = T := ⟨_, rfl⟩
      rw [hT] at p0 p1 p2 p3 p4 q0 q1 q2 q3 q4
      have hne := fun W => run_ref_neq W T.kind T.at_ T.line T.text T.num
      clear hT
      go_wp2_with (refine wpList_store_ref wr.heap.size _ T (heap_alloc_new _ _) rfl _ _ rfl rfl rfl rfl ?_; refine Hid.out ?_)
      refine Lib.hid ?_
      have hb2 := below_setRow ((Below.refl _ wr).alloc (Nat.le_refl _) (.cells #[.int .i64 0, .string ⟨#[]⟩, .int .u64 0, .int .i64 0, .int .i64 0] 44)) (Nat.le_refl _) (tokC T)
      have hg2 : Blk ((wr.alloc (.cells #[.int .i64 0, .string ⟨#[]⟩, .int .u64 0, .int .i64 0, .int .i64 0] 44)).setRow wr.heap.size (tokC T)) wr.heap.size 44 (tokC T) := heap_setRow _ _ _ _ _ _ (heap_alloc_new _ _)
      replace q0 := (hb2.cell (p := ⟨b2, o2 + k * 5, none⟩) hb2').trans q0
      replace q1 := (hb2.cell (p := ⟨b2, o2 + k * 5 + 1, none⟩) hb2').trans q1
      replace q2 := (hb2.cell (p := ⟨b2, o2 + k * 5 + 2, none⟩) hb2').trans q2
      replace q3 := (hb2.cell (p := ⟨b2, o2 + k * 5 + 3, none⟩) hb2').trans q3
      replace q4 := (hb2.cell (p := ⟨b2, o2 + k * 5 + 4, none⟩) hb2').trans q4
      obtain ⟨g, hg⟩ : ∃ g, wr.heap.size = g := ⟨_, rfl⟩
      obtain ⟨w2, hw2⟩ : ∃ w2, (wr.alloc (.cells #[.int .i64 0, .string ⟨#[]⟩, .int .u64 0, .int .i64 0, .int .i64 0] 44)).setRow wr.heap.size (tokC T) = w2 := ⟨_, rfl⟩
      rw [hw2] at hb2 hg2 q0 q1 q2 q3 q4 ⊢
      have HB2 := Lib.hid (HB.out.trans (Joins.below_le hb2 HB.out.size))
      rw [hg] at hg2 ⊢
      have HG2 := Lib.hid hg2
      clear hw2 hb2 hg2 hg p0 p1 p2 p3 p4
      have p0 : w2.cell? ⟨g, 0, none⟩ = some (.int .i64 T.kind) := HG2.out.cell 0
      have p1 : w2.cell? ⟨g, 1, none⟩ = some (.string T.text) := HG2.out.cell 1
      have p2 : w2.cell? ⟨g, 2, none⟩ = some (.int .u64 T.num) := HG2.out.cell 2
      have p3 : w2.cell? ⟨g, 3, none⟩ = some (.int .i64 T.at_) := HG2.out.cell 3
      have p4 : w2.cell? ⟨g, 4, none⟩ = some (.int .i64 T.line) := HG2.out.cell 4
      go_wp2_with fail
      go_quiet (fail)
      go_wp2_with fail
      go_round
      case rel => exact ⟨k + 1, by go_num, Lib.hid (by omega), Lib.hid (below_drewN HB2.out _)⟩
      case measure => simp [intOf]; omega
    · go_wp2_with fail
      go_ret
      exact ⟨rfl, HB.out⟩
end Go.Proofs.YtonihjijienigaaDoor
