/- Layer 3 (instr): decodeOne. -/
import Derived.Test.YtkinnhdagdkhcaaDoorInsE
import Derived.Test.YtkinnhdagdkhcaaDoorInsG
import Derived.Deep.RegionHeld3
import Derived.StillTailTactics
namespace Go.Proofs.YtkinnhdagdkhcaaDoor
open Go.RowKit

def R4 (b off : Nat) (v0 v1 v2 v3 : Value) (W : World) : Prop := W.cell? ⟨b, off, none⟩ = some v0 ∧ W.cell? ⟨b, off + 1, none⟩ = some v1 ∧ W.cell? ⟨b, off + 2, none⟩ = some v2 ∧ W.cell? ⟨b, off + 3, none⟩ = some v3
theorem R4.kept {b off : Nat} {v0 v1 v2 v3 : Value} {W W' : World} (h : R4 b off v0 v1 v2 v3 W) (k : Kept (fun _ => False) W W') : R4 b off v0 v1 v2 v3 W' :=
  ⟨k.cell_some (fun h => h) h.1, k.cell_some (fun h => h) h.2.1, k.cell_some (fun h => h) h.2.2.1, k.cell_some (fun h => h) h.2.2.2⟩

set_option maxRecDepth 100000 in
set_option maxHeartbeats 2000000 in
theorem decodeOne_calls (w : World) (b off c : Nat) (l : List Int) (hl : l.length = 12) (hc : ∀ (k : Nat) (x : Int), l[k]? = some x → w.cell? ⟨b, off + k, none⟩ = some (.int .u8 x)) (_hb : b < w.heap.size) (hL : ByteL l) :
    Calls Tryd.prog 25 #[.slice (some ⟨b, off, none⟩) 12 c] w fun e w' => e = .returned (insV (insOf l)) ∧ Kept (fun _ => False) w w' := by
  obtain ⟨x0, hx0⟩ : ∃ x, l[0]? = some x := ⟨_, List.getElem?_eq_getElem (by omega)⟩
  obtain ⟨x1, hx1⟩ : ∃ x, l[1]? = some x := ⟨_, List.getElem?_eq_getElem (by omega)⟩
  obtain ⟨x2, hx2⟩ : ∃ x, l[2]? = some x := ⟨_, List.getElem?_eq_getElem (by omega)⟩
  obtain ⟨x3, hx3⟩ : ∃ x, l[3]? = some x := ⟨_, List.getElem?_eq_getElem (by omega)⟩
  have h0 := hc 0 x0 hx0
  have h1 := hc 1 x1 hx1
  have h2 := hc 2 x2 hx2
  have h3 := hc 3 x3 hx3
  obtain ⟨a0, b0⟩ := hL x0 (List.mem_of_getElem? hx0)
  obtain ⟨a1, b1⟩ := hL x1 (List.mem_of_getElem? hx1)
  obtain ⟨a2, b2⟩ := hL x2 (List.mem_of_getElem? hx2)
  obtain ⟨a3, b3⟩ := hL x3 (List.mem_of_getElem? hx3)
  have e0 : IntKind.i64.wrap x0 = x0 := by rw [IntKind.wrap_i64]; omega
  have e1 : IntKind.i64.wrap x1 = x1 := by rw [IntKind.wrap_i64]; omega
  have e2 : IntKind.i64.wrap x2 = x2 := by rw [IntKind.wrap_i64]; omega
  have e3 : IntKind.i64.wrap x3 = x3 := by rw [IntKind.wrap_i64]; omega
  rw [Nat.add_zero] at h0
  have HR := Lib.hid (show R4 b off _ _ _ _ w from ⟨h0, h1, h2, h3⟩)
  have HC := Lib.hid hc
  have HLL := Lib.hid hL
  have HX := Lib.hid (⟨hl, hx0, hx1, hx2, hx3⟩ : l.length = 12 ∧ _ ∧ _ ∧ _ ∧ _)
  clear hc hL hl hx0 hx1 hx2 hx3
  go_enter Tryd.func25, Tryd.ntmps25
  go_wp2_with fail
  go_region_held3 (fun W => W.cell? ⟨b, off, none⟩ = some (.int .u8 x0) ∧ W.cell? ⟨b, off + 1, none⟩ = some (.int .u8 x1) ∧ W.cell? ⟨b, off + 2, none⟩ = some (.int .u8 x2) ∧ W.cell? ⟨b, off + 3, none⟩ = some (.int .u8 x3))
    ((show R4 b off (.int .u8 x0) (.int .u8 x1) (.int .u8 x2) (.int .u8 x3) _; refine HR.out.kept ?_; repeat (first | with_reducible exact Kept.refl _ _ | with_reducible refine Kept.drew ?_ | with_reducible refine Kept.alloc ?_ _)))
    (fail)
  clear e0 e1 e2 e3
  go_wp2_with fail
  go_loopw [22] (fun i wr' => ∃ (j : Nat) (W : World), W = wr' ∧ j ≤ 8 ∧ i = .int .i64 j ∧ Kept (fun _ => False) w W ∧ Blk W (w.heap.size + 1) 47 #[.int .i64 x0, .int .i64 x1, .int .i64 x2, .int .i64 x3, .int .u64 (getL ((l.drop 4).take j))] ∧ Blk W w.heap.size 47 #[.int .i64 0, .int .i64 0, .int .i64 0, .int .i64 0, .int .u64 0]) (fun i _ => 8 - (intOf i).toNat)
  case atStart => exact ⟨0, _, rfl, by omega, rfl, (((Kept.refl _ _).alloc _).alloc _).drew, Blk.new' _ _ _ _ (by simp), (Blk.new _ _ _).alloc _⟩
  case round =>
    obtain ⟨j, W, rfl, hj, rfl, K, B, B0⟩ := hrel
    by_cases hj8 : j < 8
    · obtain ⟨y, hy⟩ : ∃ y, l[4 + j]? = some y := ⟨_, List.getElem?_eq_getElem (by have := HX.out.1; omega)⟩
      obtain ⟨D, hD⟩ : ∃ D, D = World.drew W := ⟨_, rfl⟩
      have KD : Kept (fun _ => False) w D := hD ▸ K.drew
      have BD : Blk D (w.heap.size + 1) 47 #[.int .i64 x0, .int .i64 x1, .int .i64 x2, .int .i64 x3, .int .u64 (getL ((l.drop 4).take j))] := hD ▸ B.drew
      have BD0 : Blk D w.heap.size 47 #[.int .i64 0, .int .i64 0, .int .i64 0, .int .i64 0, .int .u64 0] := hD ▸ B0.drew
      have hcy := KD.cell_some (fun h => h) (HC.out (4 + j) y hy)
      have hd : D.cell? ⟨w.heap.size + 1, 4, none⟩ = some (.int .u64 (getL ((l.drop 4).take j))) := BD.cell 4
      have hfz := BD.frozen 4
      obtain ⟨ay, by'⟩ := HLL.out y (List.mem_of_getElem? hy)
      have hor := or_getL (l.drop 4) j y (HLL.out.drop 4) hj8 (by rw [List.getElem?_drop]; exact hy)
      have HK := Lib.hid KD
      have HB := Lib.hid BD
      have HB0 := Lib.hid BD0
      have HY := Lib.hid hy
      have HD := Lib.hid hD
      have HO := Lib.hid hor
      clear K B B0 hy KD BD BD0 hD hor
      go_wp2_with fail
      have z1 : IntKind.i64.wrap (4 + (j : Int)) = 4 + (j : Int) := by rw [IntKind.wrap_i64]; omega
      have z2 : IntKind.i64.wrap (8 * (j : Int)) = 8 * (j : Int) := by rw [IntKind.wrap_i64]; omega
      have z3 : (4 + (j : Int)).toNat = 4 + j := by omega
      have z4 : (0 : Int) ≤ 4 + (j : Int) := by omega
      have z5 : (4 + (j : Int)) < 12 := by omega
      have z6 : (0 : Int) ≤ 8 * (j : Int) := by omega
      refine wp_region_still_tail 13 (by kernel_rfl) (by kernel_rfl) ?_
      change wpStill _ _ (World.drew W) (fun a' => wpList _ _ _ _ a' (World.drew W)) _ _
      rw [← HD.out]
      simp only [List.take_succ_cons, List.take_zero, List.drop_succ_cons, List.drop_zero]
      repeat still_step
      try refine wpStill_nil ?_
      rw [HO.out]
      go_wp2_with fail
      refine ⟨⟨j + 1, _, rfl, by omega, rfl, HK.out.setCell (.inr (by simp)) _, HB.out.set_ 4 _, HB0.out.far (by simp) _⟩, by simp [intOf]; omega⟩
    · have hj' : j = 8 := by omega
      subst hj'
      have HK := Lib.hid K
      have HB0 := Lib.hid B0
      have c0 : _ = some (Value.int .i64 x0) := B.cell 0
      have c1 : _ = some (Value.int .i64 x1) := B.cell 1
      have c2 : _ = some (Value.int .i64 x2) := B.cell 2
      have c3 : _ = some (Value.int .i64 x3) := B.cell 3
      have c4 : _ = some (Value.int .u64 (getL ((l.drop 4).take 8))) := B.cell 4
      have f0 := B0.frozen 0
      have f1 := B0.frozen 1
      have f2 := B0.frozen 2
      have f3 := B0.frozen 3
      have f4 := B0.frozen 4
      have d0 : _ = some (Value.int .i64 0) := B0.cell 0
      have d1 : _ = some (Value.int .i64 0) := B0.cell 1
      have d2 : _ = some (Value.int .i64 0) := B0.cell 2
      have d3 : _ = some (Value.int .i64 0) := B0.cell 3
      have d4 : _ = some (Value.int .u64 0) := B0.cell 4
      have hlt := B0.lt
      clear K B B0
      go_wp2_with fail
      obtain ⟨R, hR⟩ : ∃ R, R = (((((W.setCell ⟨w.heap.size, 0, none⟩ (.int .i64 x0)).setCell ⟨w.heap.size, 1, none⟩ (.int .i64 x1)).setCell ⟨w.heap.size, 2, none⟩ (.int .i64 x2)).setCell ⟨w.heap.size, 3, none⟩ (.int .i64 x3)).setCell ⟨w.heap.size, 4, none⟩ (.int .u64 (getL ((l.drop 4).take 8)))) := ⟨_, rfl⟩
      have KR : Kept (fun _ => False) w R := hR ▸ ((((HK.out.setCell (.inr (Nat.le_refl _)) _).setCell (.inr (Nat.le_refl _)) _).setCell (.inr (Nat.le_refl _)) _).setCell (.inr (Nat.le_refl _)) _).setCell (.inr (Nat.le_refl _)) _
      have BR : Blk R w.heap.size 47 #[.int .i64 x0, .int .i64 x1, .int .i64 x2, .int .i64 x3, .int .u64 (getL ((l.drop 4).take 8))] := hR ▸ ((((HB0.out.set_ 0 _).set_ 1 _).set_ 2 _).set_ 3 _).set_ 4 _
      rw [← hR]
      have g0 : _ = some (Value.int .i64 x0) := BR.cell 0
      have g1 : _ = some (Value.int .i64 x1) := BR.cell 1
      have g2 : _ = some (Value.int .i64 x2) := BR.cell 2
      have g3 : _ = some (Value.int .i64 x3) := BR.cell 3
      have g4 : _ = some (Value.int .u64 (getL ((l.drop 4).take 8))) := BR.cell 4
      have hi : insOf l = ⟨x0, x1, x2, x3, getL ((l.drop 4).take 8)⟩ := by
        obtain ⟨_, q0, q1, q2, q3⟩ := HX.out
        simp [insOf, List.getD, q0, q1, q2, q3]
      rw [hi]
      exact bodyPost_ret (v := insV ⟨x0, x1, x2, x3, getL ((l.drop 4).take 8)⟩) (by simp [results, Tryd.results25, go_sem, insV, g0, g1, g2, g3, g4]) rfl ⟨rfl, KR⟩

end Go.Proofs.YtkinnhdagdkhcaaDoor
