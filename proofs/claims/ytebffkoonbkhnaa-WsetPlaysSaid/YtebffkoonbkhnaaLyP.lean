/- Layer 7 (lay): walks: Of. -/
import Derived.Test.YtebffkoonbkhnaaLyO
namespace Go.Proofs.Ytebffkoonbkhnaa
open Go.RowKit
attribute [local go_sem ↓] loadMap_eq

def zeroA : Array Value := #[.int .i64 0, .int .i64 0, .int .i64 0, .int .i64 0, .int .u64 0, .int .u64 0, .int .i64 0, .int .i64 0, .int .i64 0, .int .i64 0, .int .i64 0, .int .i64 0, .int .i64 0, .int .i64 0, .int .i64 0, .int .i64 0, .int .i64 0, .int .i64 0, .int .i64 0, .int .i64 0, .int .i64 0, .int .i64 0, .int .i64 0]
theorem zeroA_one : zeroA.all (·.oneCell') = true := by simp [zeroA, Value.oneCell']
theorem mapXA_one0 (c : CfgD) : (mapXA c (fun _ => .int .i64 0)).all (·.oneCell') = true := by simp [mapXA, Value.oneCell']
theorem loadMap_arr {w : World} {B : Nat} {cs : Array Value} (h : Blk w B 31 cs) (hs : cs.size = 23) : (loadMap ⟨B, 0, none⟩).run Try.prog w = .ok (.agg cs) w :=
  run_loadVar_row w B 31 31 cs (0, 0) _ h Try.underlying31 rfl (by rw [hs]; kernel_rfl)

theorem sets_mapA (c : CfgD) : setsA (mapXA c (fun _ => .int .i64 0)) 6 (begA c).toList = mapA c := by simp [setsA, mapXA, begA, mapA]

set_option maxRecDepth 100000 in
set_option maxHeartbeats 4000000 in
theorem of_no (c : CfgD) (h : ¬ c.Ok) (w : World) : Calls Try.prog 24 #[cfgV c] w fun e w' => e = .returned (.tuple #[.agg zeroA, .int .i64 1]) ∧ Below w.heap.size w w' := by
  have HD : Hid (decide c.Ok = false) := Lib.hid (decide_eq_false h)
  clear h
  unfold cfgV
  go_enter Try.func24, Try.ntmps24
  go_wp2_with (first
    | (go_at_call 79; refine (mayBe_calls c _).mono ?_; rintro e w1 ⟨rfl, hb⟩; rw [HD.out]; have H2 : Hid (Blk w1 (w.heap.size + 1) 31 zeroA) := Lib.hid ((Blk.new' _ _ _ _ (by simp)).below hb (by simp)); have hK : Hid (Kept (fun _ => False) w w1) := Lib.hid ((((Kept.refl _ w).alloc _).alloc _).trans (keptBelow hb)); clear hb)
    | (refine wpList_store_blk ?_ 31 (.tmp 2) (.tmp 8) ?_ (w.heap.size + 1) ?_ 31 zeroA zeroA ?_ ?_ ?_ ?_ ?_ ?_; rfl; rfl; rfl; rfl; exact H2.out; kernel_rfl; rfl; exact zeroA_one; intro w3 hB3 hK3; have HB3 := Lib.hid hB3; have HK3 := Lib.hid hK3; clear hB3 hK3))
  exact bodyPost_ret (v := .tuple #[.agg zeroA, .int .i64 1]) (results_cell_slot (q := 3) rfl _ _ (w.heap.size + 1) 31 zeroA (0, 0) _ rfl HB3.out Try.underlying31 rfl (by kernel_rfl)) rfl ⟨rfl, (belowKept hK.out).trans (HK3.out.toBelow (B := w.heap.size) hK.out.size (fun k hk e => by omega))⟩

set_option maxRecDepth 100000 in
set_option maxHeartbeats 4000000 in
theorem of_yes (c : CfgD) (h : c.Ok) (w : World) : Calls Try.prog 24 #[cfgV c] w fun e w' => e = .returned (.tuple #[mapV c, .int .i64 0]) ∧ Below w.heap.size w w' := by
  have HD : Hid (decide c.Ok = true) := Lib.hid (decide_eq_true h)
  have HB := Lib.hid h.bd
  clear h
  unfold cfgV
  go_enter Try.func24, Try.ntmps24
  go_wp2_with (first
    | (go_at_call 79; refine (mayBe_calls c _).mono ?_; rintro e w1 ⟨rfl, hb⟩; rw [HD.out]; have H2 : Hid (Blk w1 (w.heap.size + 1) 31 zeroA) := Lib.hid ((Blk.new' _ _ _ _ (by simp)).below hb (by simp)); have H1 : Blk w1 w.heap.size 24 #[.int .i64 c.t, .int .i64 c.b, .int .i64 c.wr, .int .i64 c.f, .int .u64 c.first, .int .u64 c.last] := (Blk.alloc (Blk.new _ _ _) _).below hb (by first | (simp; done) | (simp only [World.size_alloc]; omega)); have k0 : w1.cell? ⟨w.heap.size, 0, none⟩ = some (.int .i64 c.t) := H1.cell 0; have k1 : w1.cell? ⟨w.heap.size, 1, none⟩ = some (.int .i64 c.b) := H1.cell 1; have k2 : w1.cell? ⟨w.heap.size, 2, none⟩ = some (.int .i64 c.wr) := H1.cell 2; have k3 : w1.cell? ⟨w.heap.size, 3, none⟩ = some (.int .i64 c.f) := H1.cell 3; have k4 : w1.cell? ⟨w.heap.size, 4, none⟩ = some (.int .u64 c.first) := H1.cell 4; have k5 : w1.cell? ⟨w.heap.size, 5, none⟩ = some (.int .u64 c.last) := H1.cell 5; have hK : Hid (Kept (fun _ => False) w w1) := Lib.hid ((((Kept.refl _ w).alloc _).alloc _).trans (keptBelow hb)); have hs1 : w.heap.size + 1 < w1.heap.size := (by have := hb.size; simp at this; first | exact this | omega); clear hb H1)
    | (refine wpList_store_blk ?_ 31 (.tmp 4) (.tmp 10) ?_ w1.heap.size ?_ 31 zeroA (mapXA c (fun _ => .int .i64 0)) ?_ ?_ ?_ ?_ ?_ ?_; rfl; rfl; rfl; rfl; exact (Blk.new _ _ _); kernel_rfl; rfl; exact (mapXA_one0 c); intro w3 hB3 hK3; have HB3 := Lib.hid hB3; have H3 := Lib.hid (hK3.blk (H2.out.alloc _) (by omega)); have HK3 := Lib.hid hK3; have hl3 := loadMap_arr hB3 rfl; clear hB3 hK3 k0 k1 k2 k3 k4 k5))
  have hb3 := HB.out
  go_wp2_with (first
    | (go_at_call 80; refine (beginnings_calls c (fun _ => .int .i64 0) hb3 _).mono ?_; rintro e w4 ⟨rfl, hb⟩; have HB4 := Lib.hid (HB3.out.below hb HB3.out.lt); have H4 := Lib.hid (H3.out.below hb H3.out.lt); have HK4 := Lib.hid (keptBelow hb); clear hb)
    | (refine wpList_store_part ?_ 29 (.tmp 13) (.tmp 12) ?_ w1.heap.size 6 ?_ 31 (mapXA c (fun _ => .int .i64 0)) (begA c) ?_ ?_ ?_ ?_ ?_ ?_; rfl; rfl; rfl; rfl; exact HB4.out; kernel_rfl; (simp [mapXA, begA]); exact (begA_one c); intro w5 hB5 hK5; rw [sets_mapA] at hB5; have HB5 := Lib.hid hB5; have H5 := Lib.hid (hK5.blk H4.out (by omega)); have HK5 := Lib.hid hK5; have hl5 := loadMap_arr HB5.out rfl; clear hB5 hK5)
    | (refine wpList_store_blk ?_ 31 (.tmp 2) (.tmp 14) ?_ (w.heap.size + 1) ?_ 31 zeroA (mapA c) ?_ ?_ ?_ ?_ ?_ ?_; rfl; rfl; rfl; rfl; exact H5.out; kernel_rfl; rfl; exact (mapA_one c); intro w6 hB6 hK6; have HB6 := Lib.hid hB6; have HK6 := Lib.hid hK6; clear hB6 hK6))
  have hz := hK.out.size
  have hz3 := HK3.out.size
  have hz4 := HK4.out.size
  have hz5 := HK5.out.size
  simp only [World.size_alloc] at hz3
  refine bodyPost_ret (v := .tuple #[mapV c, .int .i64 0]) (results_cell_slot (q := 3) rfl _ _ (w.heap.size + 1) 31 (mapA c) (0, 0) _ rfl HB6.out Try.underlying31 rfl (by kernel_rfl)) rfl ⟨rfl, ?_⟩
  have s1 : Below w.heap.size w w1 := belowKept hK.out
  have s2 := s1.alloc (o := .cells #[.int .i64 0, .int .i64 0, .int .i64 0, .int .i64 0, .int .u64 0, .int .u64 0, .int .i64 0, .int .i64 0, .int .i64 0, .int .i64 0, .int .i64 0, .int .i64 0, .int .i64 0, .int .i64 0, .int .i64 0, .int .i64 0, .int .i64 0, .int .i64 0, .int .i64 0, .int .i64 0, .int .i64 0, .int .i64 0, .int .i64 0] 31) hz
  exact (((s2.trans (HK3.out.toBelow (B := w.heap.size) (by simp only [World.size_alloc]; omega) (fun k hk e => by omega))).trans (HK4.out.toBelow (B := w.heap.size) (by omega) (fun k hk e => e))).trans (HK5.out.toBelow (B := w.heap.size) (by omega) (fun k hk e => by omega))).trans (HK6.out.toBelow (B := w.heap.size) (by omega) (fun k hk e => by omega))
end Go.Proofs.Ytebffkoonbkhnaa
