/- Layer 1 (cell): alive, the document's example. -/
import Derived.Test.YtkinnhdagdkhcaaCellH
namespace Go.Proofs.Ytkinnhdagdkhcaa
open Go.RowKit

theorem Mm.alloc {w : World} {b g cap : Nat} {ev : Value} {cs : List (Int × Int)} {E : List EvD} (M : Mm w b g cap ev cs E) (o : Obj) : Mm (w.alloc o) b g cap ev cs E :=
  IsMem.keep M ((Kept.refl (fun _ => False) _).alloc _) (fun h => h) (fun h => h) (fun _ _ h => h)
theorem Mm.kept {w w' : World} {b g cap : Nat} {ev : Value} {cs : List (Int × Int)} {E : List EvD} (M : Mm w b g cap ev cs E) (h : Kept (fun _ => False) w w') : Mm w' b g cap ev cs E :=
  IsMem.keep M h (fun h => h) (fun h => h) (fun _ _ h => h)
theorem Kept.foot {w w1 w2 : World} {b g : Nat} {ev : Value} (h : Kept (fun _ => False) w w1) (h2 : Kept (Foot b g ev) w1 w2) (hb : w.heap.size ≤ b) (hg : w.heap.size ≤ g) (he : ∀ x, ev.ownBlock = some x → w.heap.size ≤ x) : Kept (fun _ => False) w w2 :=
  ⟨h2.os.trans h.os, h2.tape.trans h.tape, h2.output.trans h.output, Nat.le_trans h.size h2.size, fun k hk _ => (h2.block k (Nat.lt_of_lt_of_le hk h.size) (by
    rintro (rfl | rfl | hx)
    · omega
    · omega
    · have := he _ hx
      omega)).trans (h.block k hk (fun h => h))⟩
theorem fresh_next {w w1 : World} {ev ev' : Value} (h : Kept (fun _ => False) w w1) (he : ∀ x, ev.ownBlock = some x → w.heap.size ≤ x) (hn : ev'.ownBlock = ev.ownBlock ∨ ∃ x, ev'.ownBlock = some x ∧ w1.heap.size ≤ x) : ∀ x, ev'.ownBlock = some x → w.heap.size ≤ x := by
  intro x hx
  rcases hn with hn | ⟨y, hy, hs⟩
  · exact he x (hn ▸ hx)
  · rw [hy] at hx
    injection hx with hx
    have := h.size
    omega

set_option maxHeartbeats 4000000 in
theorem alive_calls (w : World) : Calls Try.prog 9 #[] w fun e w' => e = .returned (.bool true) ∧ Kept (fun _ => False) w w' := by
  go_enter Try.func9, Try.ntmps9
  go_wp2_with fail
  refine (new_yes 2 (by omega) _).mono ?_
  rintro e w1 ⟨rfl, M1, K1⟩
  have N1 : Mm w1 (w.heap.size + 1) w.heap.size 2 (.slice none 0 0) [(0, 0), (0, 0)] [] := M1
  clear M1
  obtain ⟨b, hb⟩ : ∃ b, b = w.heap.size + 1 := ⟨_, rfl⟩
  rw [← hb] at N1 ⊢
  have hbw : w.heap.size ≤ b := by omega
  obtain ⟨g, hg⟩ : ∃ g, g = w.heap.size := ⟨_, rfl⟩
  rw [← hg] at N1
  have hgw : w.heap.size ≤ g := by omega
  clear hb hg
  have F1 : ∀ x, (Value.slice none 0 0).ownBlock = some x → w.heap.size ≤ x := by simp [Value.ownBlock]
  go_wp2_with (go_at_call 21; refine (size_calls _ b _ 2 _ N1.blk.m0).mono ?_; rintro e w' ⟨rfl, rfl⟩)
  refine (do_calls _ b g 2 _ _ _ N1 1 2 1 (0, 0) (7, 1) (by simp) ⟨[(0, 0), (7, 1)], [⟨1, 2, 1, (0, 0), (7, 1), (0, 0), true⟩], (0, 0), true, 0⟩ rfl).mono ?_
  rintro e w2 ⟨rfl, ev2, N2, K2, h2⟩
  have F2 := fresh_next K1 F1 h2
  have L2 := Kept.foot K1 K2 hbw hgw F1
  clear K1 K2 h2 F1 N1
  simp only [outV] at *
  go_wp2_with fail
  have B2 := Blk.new w2 41 #[.int .u64 0, .int .u64 0, .bool true]
  refine (do_calls _ b g 2 ev2 _ _ (N2.alloc _) 2 2 1 (0, 0) (8, 1) (by simp) ⟨[(0, 0), (7, 1)], [⟨1, 2, 1, (0, 0), (7, 1), (0, 0), true⟩, ⟨2, 2, 1, (0, 0), (8, 1), (7, 1), false⟩], (7, 1), false, 0⟩ rfl).mono ?_
  rintro e w3 ⟨rfl, ev3, N3, K3, h3⟩
  have B2' := (N2.alloc _).far K3 B2 (by decide) (by decide) (by decide)
  have F3 := fresh_next (L2.alloc _) F2 h3
  have L3 := Kept.foot (L2.alloc _) K3 hbw hgw F2
  clear K3 h3 F2 N2 B2 L2
  simp only [outV] at *
  go_wp2_with fail
  have B3 := Blk.new w3 41 #[.int .u64 7, .int .u64 1, .bool false]
  refine (do_calls _ b g 2 ev3 _ _ (N3.alloc _) 2 0 2 (0, 0) (0, 0) (by simp) ⟨[(0, 0), (7, 1)], [⟨1, 2, 1, (0, 0), (7, 1), (0, 0), true⟩, ⟨2, 2, 1, (0, 0), (8, 1), (7, 1), false⟩], (0, 0), false, 31⟩ rfl).mono ?_
  rintro e w4 ⟨rfl, ev4, N4, K4, h4⟩
  have B2'' := (N3.alloc _).far K4 (B2'.alloc _) (by decide) (by decide) (by decide)
  have B3' := (N3.alloc _).far K4 B3 (by decide) (by decide) (by decide)
  have F4 := fresh_next (L3.alloc _) F3 h4
  have L4 := Kept.foot (L3.alloc _) K4 hbw hgw F3
  clear K4 h4 F3 N3 B2' B3 L3
  simp only [outV] at *
  go_wp2_with fail
  refine (peek_at _ b g 2 ev4 _ _ _ _ (N4.alloc _) 1 (7, 1) rfl).mono ?_
  rintro e w5 ⟨rfl, hw5⟩
  have K5 : Kept (fun _ => False) _ w5 := (Kept.below hw5).mono (fun k hk h => by omega)
  have N5 : Mm w5 b g 2 ev4 _ _ := (N4.alloc _).kept K5
  have B2a := K5.blk (B2''.alloc _) (fun h => h)
  have B3a := K5.blk (B3'.alloc _) (fun h => h)
  have L5 := (L4.alloc _).trans K5
  clear K5 hw5 N4 B2'' B3' L4
  simp only [cellV] at *
  go_wp2_with fail
  have B5 := Blk.new w5 35 #[.int .u64 7, .int .u64 1]
  refine (clone_calls _ b g 2 ev4 _ _ _ _ (N5.alloc _) (by simp) (by simp)).mono ?_
  rintro e w6 ⟨b', g', cap', ev', rfl, N6', K6, _, _, _⟩
  have N6 := (N5.alloc _).kept K6
  have B2b := K6.blk (B2a.alloc _) (fun h => h)
  have B3b := K6.blk (B3a.alloc _) (fun h => h)
  have B5b := K6.blk B5 (fun h => h)
  have L6 := (L5.alloc _).trans K6
  clear K6 N5 B2a B3a B5 L5
  go_wp2_with fail
  refine (lawEvents _ b ev4 _ _ 9 N6.blk.m9 N6.evs (by omega) (by simp) rfl).mono ?_
  rintro e w7 ⟨A, c, rfl, E7, _, K7⟩
  have N7 := N6.kept K7
  have N7' := N6'.keep K7 (fun h => h) (fun h => h) (fun _ _ h => h)
  have B2c := K7.blk B2b (fun h => h)
  have B3c := K7.blk B3b (fun h => h)
  have B5c := K7.blk B5b (fun h => h)
  have L7 := L6.trans K7
  clear K7 N6 N6' B2b B3b B5b L6
  obtain ⟨h, hA⟩ : ∃ h, A = some ⟨h, 0, none⟩ := by
    rcases E7.2 with ⟨_, h0⟩ | ⟨g, cap, cur, hv, _⟩
    · exact absurd h0 (by decide)
    · simp at hv; exact ⟨g, hv.1⟩
  subst hA
  have x0 : w7.cell? ⟨w2.heap.size, 2, none⟩ = some (.bool true) := B2c.cell 2
  have x1 : w7.cell? ⟨w3.heap.size, 2, none⟩ = some (.bool false) := B3c.cell 2
  have x2 : w7.cell? ⟨w3.heap.size, 0, none⟩ = some (.int .u64 7) := B3c.cell 0
  have x3 : w7.cell? ⟨w5.heap.size, 0, none⟩ = some (.int .u64 7) := B5c.cell 0
  have x3' : w7.cell? ⟨w5.heap.size, 1, none⟩ = some (.int .u64 1) := B5c.cell 1
  have x4 : w7.cell? ⟨h, 10, none⟩ = some (.int .i64 2) := by
    have := E7.cellAt 10 (by decide)
    rw [this]; rfl
  have x5 : w7.cell? ⟨b, 3, none⟩ = some (.int .i64 1) := N7.blk.cell 3
  have hmin : min (9 : Int).toNat [(⟨1, 2, 1, (0, 0), (7, 1), (0, 0), true⟩ : EvD), ⟨2, 2, 1, (0, 0), (8, 1), (7, 1), false⟩].length = 2 := rfl
  rw [hmin]
  clear hmin E7 B2c B3c B5c
  obtain ⟨A4, c4, rfl⟩ := own_form N7.evs
  have y9 : w7.cell? ⟨b, 9, none⟩ = some (.slice A4 2 c4) := N7.blk.m9
  obtain ⟨A5, c5, rfl⟩ := own_form N7'.evs
  have y9' : w7.cell? ⟨b', 9, none⟩ = some (.slice A5 2 c5) := N7'.blk.m9
  go_wp2_with (first
    | (go_at_call 17; refine (steps_yes _ b 2 (by omega) 1 x5).mono ?_; rintro e w' ⟨rfl, rfl⟩)
    | (go_at_call_of 19 (Value.pointer (some ⟨b, 0, none⟩)); refine (total_calls _ b A4 2 c4 y9).mono ?_; rintro e w' ⟨rfl, rfl⟩)
    | (go_at_call_of 19 (Value.pointer (some ⟨b', 0, none⟩)); refine (total_calls _ b' A5 2 c5 y9').mono ?_; rintro e w' ⟨rfl, rfl⟩)
    | (go_at_call 18; refine (set_yes _ b g 2 _ _ _ _ _ N7 0 (7, 1) (by simp)).mono ?_; rintro e w8 ⟨rfl, N8, K8⟩))
  go_ret
  exact ⟨rfl, L7.foot (K8.mono (fun x _ h => .inr (.inl h))) hbw hgw F4⟩

end Go.Proofs.Ytkinnhdagdkhcaa
