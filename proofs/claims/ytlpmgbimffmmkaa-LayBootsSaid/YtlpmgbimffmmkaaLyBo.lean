/- LayBoots: the walk of the law. -/
import Derived.Test.YtlpmgbimffmmkaaLyZ
import Derived.Test.YtlpmgbimffmmkaaLyRc
namespace Go.Proofs.Ytlpmgbimffmmkaa
open Go.RowKit
attribute [local go_sem ↓] loadMap_eq

set_option maxRecDepth 100000 in
set_option maxHeartbeats 4000000 in
theorem boots_no (c : CfgD) (h : ¬ c.Ok) (w : World) : Calls Try.prog 6 #[cfgV c] w (Good w) := by
  have HN := Lib.hid h
  have HD := Lib.hid (decide_eq_false h)
  clear h
  unfold cfgV
  go_enter Try.func6, Try.ntmps6
  go_wp2_with (first
    | (go_at_call 13; refine (alive_calls _).mono ?_; rintro e w1 ⟨rfl, hk⟩; have H5 : Hid (Blk w1 w.heap.size 24 #[.int .i64 c.t, .int .i64 c.b, .int .i64 c.wr, .int .i64 c.f, .int .u64 c.first, .int .u64 c.last]) := Lib.hid (hk.blk (Blk.new _ _ _) (fun h => h)); have k0 : w1.cell? ⟨w.heap.size, 0, none⟩ = some (.int .i64 c.t) := H5.out.cell 0; have k1 : w1.cell? ⟨w.heap.size, 1, none⟩ = some (.int .i64 c.b) := H5.out.cell 1; have k2 : w1.cell? ⟨w.heap.size, 2, none⟩ = some (.int .i64 c.wr) := H5.out.cell 2; have k3 : w1.cell? ⟨w.heap.size, 3, none⟩ = some (.int .i64 c.f) := H5.out.cell 3; have k4 : w1.cell? ⟨w.heap.size, 4, none⟩ = some (.int .u64 c.first) := H5.out.cell 4; have k5 : w1.cell? ⟨w.heap.size, 5, none⟩ = some (.int .u64 c.last) := H5.out.cell 5; have HK1 := Lib.hid (((Kept.refl (fun _ => False) w).alloc (.cells #[.int .i64 c.t, .int .i64 c.b, .int .i64 c.wr, .int .i64 c.f, .int .u64 c.first, .int .u64 c.last] 24)).trans hk); clear hk)
    | (go_at_call 14; refine (ofK_no c HN.out _).mono ?_; rintro e w2 ⟨rfl, hk⟩; have H52 := Lib.hid (hk.blk H5.out (fun h => h)); have HK2 := Lib.hid (HK1.out.trans hk); clear hk; clear k0 k1 k2 k3 k4 k5)
    | (refine wpList_store_blk ?_ 28 (.tmp 3) (.tmp 16) ?_ w2.heap.size ?_ 28 zeroA zeroA ?_ ?_ ?_ ?_ ?_ ?_; rfl; rfl; rfl; rfl; exact Blk.new _ _ _; kernel_rfl; rfl; exact zeroA_one; intro w3 hB3 hk; have H53 := Lib.hid (hk.blk (H52.out.alloc _) (by have := H52.out.lt; omega)); have HK3 : Hid (Kept (fun _ => False) w w3) := Lib.hid (Kept.fresh (HK2.out.alloc _) hk HK2.out.size); have k0 : w3.cell? ⟨w.heap.size, 0, none⟩ = some (.int .i64 c.t) := H53.out.cell 0; have k1 : w3.cell? ⟨w.heap.size, 1, none⟩ = some (.int .i64 c.b) := H53.out.cell 1; have k2 : w3.cell? ⟨w.heap.size, 2, none⟩ = some (.int .i64 c.wr) := H53.out.cell 2; have k3 : w3.cell? ⟨w.heap.size, 3, none⟩ = some (.int .i64 c.f) := H53.out.cell 3; have k4 : w3.cell? ⟨w.heap.size, 4, none⟩ = some (.int .u64 c.first) := H53.out.cell 4; have k5 : w3.cell? ⟨w.heap.size, 5, none⟩ = some (.int .u64 c.last) := H53.out.cell 5; clear hB3 hk)
    | (go_at_call 15; refine (right_calls c _).mono ?_; rintro e w4 ⟨rfl, hk⟩; rw [HD.out]; have HK4 := Lib.hid (HK3.out.trans hk); clear hk))
  go_ret
  exact ⟨rfl, HK4.out⟩
theorem run_cell_same (W : World) (x y : Int) : (binOp .neq 51 (.agg #[.int .u64 x, .int .u64 y]) (.agg #[.int .u64 x, .int .u64 y])).run Try.prog W = .ok (.bool false) W := by
  simp [go_sem]

set_option maxRecDepth 100000 in
set_option maxHeartbeats 8000000 in
theorem boots_yes (c : CfgD) (h : c.Ok) (w : World) : Calls Try.prog 6 #[cfgV c] w (Good w) := by
  have HO := Lib.hid h
  have HB := Lib.hid h.bd
  have HD := Lib.hid (decide_eq_true h)
  obtain ⟨n, hn⟩ : ∃ n, n = (bootL c).length := ⟨_, rfl⟩
  have hn1 : n ≤ 20000 := by
    have := size_bd h.bd
    rw [hn]; unfold bootL; rw [bootK_len]; omega
  have HL := Lib.hid hn
  clear h hn
  unfold cfgV
  go_enter Try.func6, Try.ntmps6
  go_wp2_with (first
    | (go_at_call 13; refine (alive_calls _).mono ?_; rintro e w1 ⟨rfl, hk⟩; have H5 : Hid (Blk w1 w.heap.size 24 #[.int .i64 c.t, .int .i64 c.b, .int .i64 c.wr, .int .i64 c.f, .int .u64 c.first, .int .u64 c.last]) := Lib.hid (hk.blk (Blk.new _ _ _) (fun h => h)); have k0 : w1.cell? ⟨w.heap.size, 0, none⟩ = some (.int .i64 c.t) := H5.out.cell 0; have k1 : w1.cell? ⟨w.heap.size, 1, none⟩ = some (.int .i64 c.b) := H5.out.cell 1; have k2 : w1.cell? ⟨w.heap.size, 2, none⟩ = some (.int .i64 c.wr) := H5.out.cell 2; have k3 : w1.cell? ⟨w.heap.size, 3, none⟩ = some (.int .i64 c.f) := H5.out.cell 3; have k4 : w1.cell? ⟨w.heap.size, 4, none⟩ = some (.int .u64 c.first) := H5.out.cell 4; have k5 : w1.cell? ⟨w.heap.size, 5, none⟩ = some (.int .u64 c.last) := H5.out.cell 5; have HK1 := Lib.hid (((Kept.refl (fun _ => False) w).alloc (.cells #[.int .i64 c.t, .int .i64 c.b, .int .i64 c.wr, .int .i64 c.f, .int .u64 c.first, .int .u64 c.last] 24)).trans hk); clear hk)
    | (go_at_call 14; refine (ofK_yes c HO.out _).mono ?_; rintro e w2 ⟨rfl, hk⟩; have H52 := Lib.hid (hk.blk H5.out (fun h => h)); have HK2 := Lib.hid (HK1.out.trans hk); clear hk; clear k0 k1 k2 k3 k4 k5)
    | (refine wpList_store_blk ?_ 28 (.tmp 3) (.tmp 16) ?_ w2.heap.size ?_ 28 zeroA (mapA c) ?_ ?_ ?_ ?_ ?_ ?_; rfl; rfl; rfl; rfl; exact Blk.new _ _ _; kernel_rfl; rfl; exact (mapA_one c); intro w3 hB3 hk; have H53 := Lib.hid (hk.blk (H52.out.alloc _) (by have := H52.out.lt; omega)); have HM3 := Lib.hid hB3; have HK3 : Hid (Kept (fun _ => False) w w3) := Lib.hid (Kept.fresh (HK2.out.alloc _) hk HK2.out.size); have k0 : w3.cell? ⟨w.heap.size, 0, none⟩ = some (.int .i64 c.t) := H53.out.cell 0; have k1 : w3.cell? ⟨w.heap.size, 1, none⟩ = some (.int .i64 c.b) := H53.out.cell 1; have k2 : w3.cell? ⟨w.heap.size, 2, none⟩ = some (.int .i64 c.wr) := H53.out.cell 2; have k3 : w3.cell? ⟨w.heap.size, 3, none⟩ = some (.int .i64 c.f) := H53.out.cell 3; have k4 : w3.cell? ⟨w.heap.size, 4, none⟩ = some (.int .u64 c.first) := H53.out.cell 4; have k5 : w3.cell? ⟨w.heap.size, 5, none⟩ = some (.int .u64 c.last) := H53.out.cell 5; have hl := loadMap_arr HM3.out rfl; clear hB3 hk)
    | (go_at_call 15; (refine (right_calls c _).mono ?_); rintro e w4 ⟨rfl, hk⟩; rw [HD.out]; have HM4 := Lib.hid (hk.blk HM3.out (fun h => h)); have H54 := Lib.hid (hk.blk H53.out (fun h => h)); have HK4 := Lib.hid (HK3.out.trans hk); have hl4 := loadMap_arr HM4.out rfl; clear hk hl k0 k1 k2 k3 k4 k5)
    | (go_at_call 29; (refine (boot_calls c HB.out _).mono ?_); rintro e w5 ⟨b, g, rfl, hM, hk⟩; have HM5 := Lib.hid hM; have H55 := Lib.hid (hk.blk H54.out (fun h => h)); have HK5 := Lib.hid (HK4.out.trans hk); have k0 : w5.cell? ⟨w.heap.size, 0, none⟩ = some (.int .i64 c.t) := H55.out.cell 0; have k1 : w5.cell? ⟨w.heap.size, 1, none⟩ = some (.int .i64 c.b) := H55.out.cell 1; have k2 : w5.cell? ⟨w.heap.size, 2, none⟩ = some (.int .i64 c.wr) := H55.out.cell 2; have k3 : w5.cell? ⟨w.heap.size, 3, none⟩ = some (.int .i64 c.f) := H55.out.cell 3; have k4 : w5.cell? ⟨w.heap.size, 4, none⟩ = some (.int .u64 c.first) := H55.out.cell 4; have k5 : w5.cell? ⟨w.heap.size, 5, none⟩ = some (.int .u64 c.last) := H55.out.cell 5; clear hk hl4 hM)
    | (go_at_call 30; (refine (rBoot_calls c HB.out _).mono ?_); rintro e w6 ⟨g2, rfl, hR, hk⟩; rw [← HL.out] at hR ⊢; have HM6 := Lib.hid (HM5.out.kept hk); have HR6 := Lib.hid hR; have HK6 := Lib.hid (HK5.out.trans hk); clear hk hR k0 k1 k2 k3 k4 k5)
    | (go_at_call 31; (refine (memSize_calls _ _ _ _ _ HM6.out.blk.m0).mono ?_); rintro e wx ⟨rfl, rfl⟩; rw [← HL.out])
    | (go_at_call 32; (refine (total_calls _ _ _ _ _ HM6.out.blk.m9).mono ?_); rintro e wx ⟨rfl, rfl⟩))
  go_loopw [48] (fun i wr => ∃ (k : Nat) (W : World), W = wr ∧ k ≤ n ∧ i = .int .i64 k ∧ MemL W b g (bootL c) ∧ RowC W g2 n (bootL c) ∧ Kept (fun _ => False) w W) (fun i _ => n - (intOf i).toNat)
  case atStart => exact ⟨0, _, rfl, Nat.zero_le _, rfl, HM6.out, HR6.out, HK6.out⟩
  case round =>
    obtain ⟨k, wr, rfl, hk, rfl, hM, hR, hK⟩ := hrel
    have HMs := Lib.hid hM
    have HRs := Lib.hid hR
    have HKs := Lib.hid hK
    clear hM hR hK
    by_cases hlt : k < n
    · obtain ⟨p, hp⟩ : ∃ p, (bootL c)[k]? = some p := ⟨_, List.getElem?_eq_getElem (by rw [← HL.out]; exact hlt)⟩
      obtain ⟨x0, x1, y0, y1⟩ := HRs.out.cells hp
      have HP := Lib.hid hp
      have hlg := HRs.out.lt
      have hs := run_cell_same
      clear hp y0 y1
      go_wp2_with (go_at_call 33; (refine (peek_at (HMs.out.kept ((Kept.refl _ _).alloc _)) k p HP.out).mono ?_); rintro e w8 ⟨rfl, hk8⟩; simp only [cellV]; have hb8 := hk8.blk (Blk.new wr 51 #[.int .u64 p.1, .int .u64 p.2]) (fun h => h); have z0 : w8.cell? ⟨wr.heap.size, 0, none⟩ = some (.int .u64 p.1) := hb8.cell 0; have z1 : w8.cell? ⟨wr.heap.size, 1, none⟩ = some (.int .u64 p.2) := hb8.cell 1; have hlb := hb8.lt; have HK8 := Lib.hid (((Kept.refl (fun _ => False) wr).alloc (.cells #[.int .u64 p.1, .int .u64 p.2] 51)).trans hk8); clear hk8 hb8)
      go_roundw
      case rel => exact ⟨k + 1, _, rfl, by omega, by go_num, HMs.out.kept (HK8.out.alloc _), HRs.out.kept (HK8.out.alloc _), (HKs.out.trans HK8.out).alloc _⟩
      case measure => simp [intOf]; omega
    · go_wp2_with fail
      go_ret
      exact ⟨rfl, HKs.out⟩

theorem boots_walk (c : CfgD) (w : World) : Calls Try.prog 6 #[cfgV c] w (Good w) := by
  by_cases h : c.Ok
  · exact boots_yes c h w
  · exact boots_no c h w
end Go.Proofs.Ytlpmgbimffmmkaa
