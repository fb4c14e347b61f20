/- Layer 7 (lay): the law's example. -/
import Derived.Test.YtlpmgbimffmmkaaLyB
namespace Go.Proofs.Ytlpmgbimffmmkaa
open Go.RowKit
attribute [local go_sem ↓] loadMap_eq

theorem limitK (c : CfgD) (h : c.Bd) (w : World) : Calls Try.prog 17 #[mapV c] w fun e w' => e = .returned (.int .i64 c.lim) ∧ Kept (fun _ => False) w w' :=
  (limit_calls c (begX c) h w).mono fun _ _ ⟨he, hb⟩ => ⟨he, keptBelow hb⟩
theorem capK (c : CfgD) (h : c.Bd) (w : World) : Calls Try.prog 19 #[mapV c] w fun e w' => e = .returned (.int .i64 c.cap) ∧ Kept (fun _ => False) w w' :=
  (cap_calls c (begX c) h w).mono fun _ _ ⟨he, hb⟩ => ⟨he, keptBelow hb⟩
theorem strideK (c : CfgD) (h : c.Bd) (w : World) : Calls Try.prog 21 #[mapV c] w fun e w' => e = .returned (.int .i64 c.str) ∧ Kept (fun _ => False) w w' :=
  (stride_calls c (begX c) h w).mono fun _ _ ⟨he, hb⟩ => ⟨he, keptBelow hb⟩
theorem sizeK (c : CfgD) (h : c.Bd) (w : World) : Calls Try.prog 23 #[mapV c] w fun e w' => e = .returned (.int .i64 c.size) ∧ Kept (fun _ => False) w w' :=
  (size_calls c h w).mono fun _ _ ⟨he, hb⟩ => ⟨he, keptBelow hb⟩
theorem cfgK (c : CfgD) (w : World) : Calls Try.prog 16 #[mapV c] w fun e w' => e = .returned (cfgV c) ∧ Kept (fun _ => False) w w' :=
  (cfg_calls c w).mono fun _ _ ⟨he, hb⟩ => ⟨he, keptBelow hb⟩
theorem ofK_no (c : CfgD) (h : ¬ c.Ok) (w : World) : Calls Try.prog 14 #[cfgV c] w fun e w' => e = .returned (.tuple #[.agg zeroA, .int .i64 1]) ∧ Kept (fun _ => False) w w' :=
  (of_no c h w).mono fun _ _ ⟨he, hb⟩ => ⟨he, keptBelow hb⟩
theorem ofK_yes (c : CfgD) (h : c.Ok) (w : World) : Calls Try.prog 14 #[cfgV c] w fun e w' => e = .returned (.tuple #[mapV c, .int .i64 0]) ∧ Kept (fun _ => False) w w' :=
  (of_yes c h w).mono fun _ _ ⟨he, hb⟩ => ⟨he, keptBelow hb⟩

/-- The example's numbers. -/
def c0 : CfgD := ⟨2, 3, 4, 5, 6, 7⟩
def cz : CfgD := ⟨0, 0, 0, 0, 0, 0⟩
theorem c0_ok : c0.Ok := ⟨by decide, by decide, by decide, by decide, by decide, by decide, by decide, by decide, by decide, by decide⟩
theorem cz_no : ¬ cz.Ok := fun h => absurd h.t1 (by decide)

theorem of1 (w : World) : Calls Try.prog 14 #[.agg #[.int .i64 2, .int .i64 3, .int .i64 4, .int .i64 5, .int .u64 6, .int .u64 7]] w fun e w' => e = .returned (.tuple #[.agg (mapA c0), .int .i64 0]) ∧ Kept (fun _ => False) w w' := ofK_yes c0 c0_ok w
theorem of2 (w : World) : Calls Try.prog 14 #[.agg #[.int .i64 0, .int .i64 0, .int .i64 0, .int .i64 0, .int .u64 0, .int .u64 0]] w fun e w' => e = .returned (.tuple #[.agg zeroA, .int .i64 1]) ∧ Kept (fun _ => False) w w' := ofK_no cz cz_no w

theorem limit1 (w : World) : Calls Try.prog 17 #[.agg (mapA c0)] w fun e w' => e = .returned (.int .i64 10) ∧ Kept (fun _ => False) w w' := limitK c0 c0_ok.bd w
theorem cap1 (w : World) : Calls Try.prog 19 #[.agg (mapA c0)] w fun e w' => e = .returned (.int .i64 46) ∧ Kept (fun _ => False) w w' := capK c0 c0_ok.bd w
theorem stride1 (w : World) : Calls Try.prog 21 #[.agg (mapA c0)] w fun e w' => e = .returned (.int .i64 54) ∧ Kept (fun _ => False) w w' := strideK c0 c0_ok.bd w
theorem size1 (w : World) : Calls Try.prog 23 #[.agg (mapA c0)] w fun e w' => e = .returned (.int .i64 173) ∧ Kept (fun _ => False) w w' := sizeK c0 c0_ok.bd w
theorem at1 (w : World) : Calls Try.prog 25 #[.agg (mapA c0), .int .i64 16, .int .i64 2, .int .i64 7] w fun e w' => e = .returned (.int .i64 172) ∧ Kept (fun _ => False) w w' := at_calls c0 c0_ok.bd 16 2 7 w
theorem at2 (w : World) : Calls Try.prog 25 #[.agg (mapA c0), .int .i64 12, .int .i64 0, .int .i64 0] w fun e w' => e = .returned (.int .i64 134) ∧ Kept (fun _ => False) w w' := at_calls c0 c0_ok.bd 12 0 0 w
theorem at3 (w : World) : Calls Try.prog 25 #[.agg (mapA c0), .int .i64 16, .int .i64 3, .int .i64 0] w fun e w' => e = .returned (.int .i64 (-1)) ∧ Kept (fun _ => False) w w' := at_calls c0 c0_ok.bd 16 3 0 w
theorem what1 (w : World) : Calls Try.prog 27 #[.agg (mapA c0), .int .i64 172] w fun e w' => e = .returned (.tuple #[.int .i64 16, .int .i64 2, .int .i64 7]) ∧ Kept (fun _ => False) w w' := what_calls c0 c0_ok.bd 172 ⟨by omega, by omega⟩ w
theorem boot1 (w : World) : Calls Try.prog 29 #[.agg (mapA c0)] w (BootR c0 w) := boot_calls c0 c0_ok.bd w
theorem cfg1 (w : World) : Calls Try.prog 16 #[.agg (mapA c0)] w fun e w' => e = .returned (.agg #[.int .i64 2, .int .i64 3, .int .i64 4, .int .i64 5, .int .u64 6, .int .u64 7]) ∧ Kept (fun _ => False) w w' := cfgK c0 w
theorem boot_c0 : (bootL c0)[0]? = some (0, 6) ∧ (bootL c0)[134]? = some (3, 0) := ⟨by decide +kernel, by decide +kernel⟩

set_option maxRecDepth 100000 in
set_option maxHeartbeats 4000000 in
theorem alive_calls (w : World) : Calls Try.prog 13 #[] w fun e w' => e = .returned (.bool true) ∧ Kept (fun _ => False) w w' := by
  have H0 := Lib.hid c0_ok.bd
  have HO := Lib.hid c0_ok
  have HZ := Lib.hid cz_no
  go_enter Try.func13, Try.ntmps13
  go_wp2_with (first
    | (go_at_call 14; (with_reducible refine (of1 _).mono ?_); rintro e w1 ⟨rfl, hk1⟩; have HK1 := Lib.hid hk1; clear hk1)
    | (refine wpList_store_blk ?_ 28 (.tmp 1) (.tmp 16) ?_ w1.heap.size ?_ 28 zeroA (mapA c0) ?_ ?_ ?_ ?_ ?_ ?_; rfl; rfl; rfl; rfl; exact Blk.new _ _ _; kernel_rfl; rfl; exact mapA_one c0; intro w2 hB2 hK2; have HB2 := Lib.hid hB2; have HK2 : Hid (Kept (fun _ => False) w w2) := Lib.hid (Kept.fresh ((HK1.out.alloc _)) hK2 HK1.out.size); clear hB2 hK2)
    | (go_at_call 14; (with_reducible refine (of2 _).mono ?_); rintro e w3 ⟨rfl, hk3⟩; have HB3 := Lib.hid (hk3.blk HB2.out (fun h => h)); have HK3 := Lib.hid (HK2.out.trans hk3); clear hk3)
    | (refine wpList_store_blk ?_ 28 (.tmp 3) (.tmp 21) ?_ w3.heap.size ?_ 28 zeroA zeroA ?_ ?_ ?_ ?_ ?_ ?_; rfl; rfl; rfl; rfl; exact Blk.new _ _ _; kernel_rfl; rfl; exact zeroA_one; intro w4 hB4 hK4; have HB4 := Lib.hid (hK4.blk (HB3.out.alloc _) (by have := HB3.out.lt; omega)); have HK4 : Hid (Kept (fun _ => False) w w4) := Lib.hid (Kept.fresh ((HK3.out.alloc _)) hK4 HK3.out.size); clear hB4 hK4))
  go_region_held3 (fun w' => (loadMap ⟨w1.heap.size, 0, none⟩).run Try.prog w' = .ok (.agg (mapA c0)) w')
    (first | assumption | exact loadMap_arr hS2 rfl | exact loadMap_arr hS1 rfl | exact loadMap_arr HB4.out.drew rfl)
    (first | (go_at_call 25; (with_reducible refine (at1 _).mono ?_); rintro e w5 ⟨rfl, hk5⟩; have hS1 : Blk w5 w1.heap.size 28 (mapA c0) := hk5.blk HB4.out.drew (fun h => h)) | (go_at_call 27; (with_reducible refine (what1 _).mono ?_); rintro e w6 ⟨rfl, hk6⟩; have hS2 : Blk w6 w1.heap.size 28 (mapA c0) := hk6.blk hS1 (fun h => h)))
  have HB6 := Lib.hid hS2
  have HK6 : Hid (Kept (fun _ => False) w w6) := Lib.hid ((HK4.out.drew.trans hk5).trans hk6)
  have hl6 := loadMap_arr hS2 rfl
  clear hS1 hS2 hk5 hk6
  go_wp2_with (first
    | (go_at_call 29; (with_reducible refine (boot1 _).mono ?_); rintro e w7 ⟨b, g, rfl, hM, hk⟩; have HM7 := Lib.hid hM; have HB7 := Lib.hid (hk.blk HB6.out (fun h => h)); have HK7 := Lib.hid (HK6.out.trans hk); clear hl6 hk hM)
    | (go_at_call 33; (refine (peek_at HM7.out 0 (0, 6) boot_c0.1).mono ?_); rintro e w8 ⟨rfl, hk⟩; simp only [cellV]; have HM8 := Lib.hid (HM7.out.kept hk); have HB8 := Lib.hid (hk.blk HB7.out (fun h => h)); have HK8 := Lib.hid (HK7.out.trans hk); have hl8 := loadMap_arr (HB8.out.alloc (.cells #[.int .u64 0, .int .u64 6] 51)) rfl; have HN8 := Lib.hid (Blk.new w8 51 #[.int .u64 0, .int .u64 6]); clear hk))
  have hfld : ∀ W, (Instr.field 24 (.agg #[.int .i64 2, .int .i64 3, .int .i64 4, .int .i64 5, .int .u64 6, .int .u64 7]) 1).run Try.prog W = .ok (.int .i64 3) W := fun _ => by kernel_rfl
  refine (at2 _).mono ?_
  rintro e w9 ⟨rfl, hk⟩
  have HM9 := Lib.hid ((HM8.out.kept ((Kept.refl _ _).alloc _)).kept hk)
  have HB9 := Lib.hid (hk.blk (HB8.out.alloc _) (fun h => h))
  have H9' := Lib.hid (hk.blk HN8.out (fun h => h))
  have HK9 := Lib.hid ((HK8.out.alloc _).trans hk)
  clear hl8 hk
  go_wp2_with fail
  refine (peek_at HM9.out 134 (3, 0) boot_c0.2).mono ?_
  rintro e w10 ⟨rfl, hk⟩
  simp only [cellV]
  have HB : Hid (Blk (w10.alloc (.cells #[.int .u64 3, .int .u64 0] 51)) w1.heap.size 28 (mapA c0)) := Lib.hid ((hk.blk HB9.out (fun h => h)).alloc _)
  have H9 : Hid (Blk (w10.alloc (.cells #[.int .u64 3, .int .u64 0] 51)) w8.heap.size 51 #[.int .u64 0, .int .u64 6]) := Lib.hid ((hk.blk H9'.out (fun h => h)).alloc _)
  have H11 : Hid (Blk (w10.alloc (.cells #[.int .u64 3, .int .u64 0] 51)) w10.heap.size 51 #[.int .u64 3, .int .u64 0]) := Lib.hid (Blk.new _ _ _)
  have HK : Hid (Kept (fun _ => False) w (w10.alloc (.cells #[.int .u64 3, .int .u64 0] 51))) := Lib.hid ((HK9.out.trans hk).alloc _)
  have hl := loadMap_arr HB.out rfl
  have h9 : _ = some (Value.int .u64 6) := H9.out.cell 1
  have h11 : _ = some (Value.int .u64 3) := H11.out.cell 0
  clear hk
  go_wp2_with (first
    | (go_at_call 17; (with_reducible refine (limit1 _).mono ?_); rintro e wx ⟨rfl, hk⟩; replace HB := Lib.hid (hk.blk HB.out (fun h => h)); replace hl := loadMap_arr HB.out rfl; replace H9 := Lib.hid (hk.blk H9.out (fun h => h)); replace H11 := Lib.hid (hk.blk H11.out (fun h => h)); replace h9 : _ = some (Value.int .u64 6) := H9.out.cell 1; replace h11 : _ = some (Value.int .u64 3) := H11.out.cell 0; replace HK := Lib.hid (HK.out.trans hk); clear hk)
    | (go_at_call 19; (with_reducible refine (cap1 _).mono ?_); rintro e wx ⟨rfl, hk⟩; replace HB := Lib.hid (hk.blk HB.out (fun h => h)); replace hl := loadMap_arr HB.out rfl; replace H9 := Lib.hid (hk.blk H9.out (fun h => h)); replace H11 := Lib.hid (hk.blk H11.out (fun h => h)); replace h9 : _ = some (Value.int .u64 6) := H9.out.cell 1; replace h11 : _ = some (Value.int .u64 3) := H11.out.cell 0; replace HK := Lib.hid (HK.out.trans hk); clear hk)
    | (go_at_call 21; (with_reducible refine (stride1 _).mono ?_); rintro e wx ⟨rfl, hk⟩; replace HB := Lib.hid (hk.blk HB.out (fun h => h)); replace hl := loadMap_arr HB.out rfl; replace H9 := Lib.hid (hk.blk H9.out (fun h => h)); replace H11 := Lib.hid (hk.blk H11.out (fun h => h)); replace h9 : _ = some (Value.int .u64 6) := H9.out.cell 1; replace h11 : _ = some (Value.int .u64 3) := H11.out.cell 0; replace HK := Lib.hid (HK.out.trans hk); clear hk)
    | (go_at_call 23; (with_reducible refine (size1 _).mono ?_); rintro e wx ⟨rfl, hk⟩; replace HB := Lib.hid (hk.blk HB.out (fun h => h)); replace hl := loadMap_arr HB.out rfl; replace H9 := Lib.hid (hk.blk H9.out (fun h => h)); replace H11 := Lib.hid (hk.blk H11.out (fun h => h)); replace h9 : _ = some (Value.int .u64 6) := H9.out.cell 1; replace h11 : _ = some (Value.int .u64 3) := H11.out.cell 0; replace HK := Lib.hid (HK.out.trans hk); clear hk)
    | (go_at_call 16; (with_reducible refine (cfg1 _).mono ?_); rintro e wx ⟨rfl, hk⟩; replace HB := Lib.hid (hk.blk HB.out (fun h => h)); replace hl := loadMap_arr HB.out rfl; replace H9 := Lib.hid (hk.blk H9.out (fun h => h)); replace H11 := Lib.hid (hk.blk H11.out (fun h => h)); replace h9 : _ = some (Value.int .u64 6) := H9.out.cell 1; replace h11 : _ = some (Value.int .u64 3) := H11.out.cell 0; replace HK := Lib.hid (HK.out.trans hk); clear hk)
    | (go_at_call 25; (with_reducible refine (at3 _).mono ?_); rintro e wx ⟨rfl, hk⟩; replace HB := Lib.hid (hk.blk HB.out (fun h => h)); replace hl := loadMap_arr HB.out rfl; replace H9 := Lib.hid (hk.blk H9.out (fun h => h)); replace H11 := Lib.hid (hk.blk H11.out (fun h => h)); replace h9 : _ = some (Value.int .u64 6) := H9.out.cell 1; replace h11 : _ = some (Value.int .u64 3) := H11.out.cell 0; replace HK := Lib.hid (HK.out.trans hk); clear hk))
  go_ret
  exact ⟨rfl, HK.out⟩
end Go.Proofs.Ytlpmgbimffmmkaa
