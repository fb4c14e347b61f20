/- LayBack: the walk of the law. -/
import Derived.Test.YtlpmgbimffmmkaaLyG
namespace Go.Proofs.Ytlpmgbimffmmkaa
open Go.RowKit
attribute [local go_sem ↓] loadMap_eq

/-- What a law's call comes to. -/
def Good (w : World) (e : Ending) (w' : World) : Prop := e = .returned (.bool true) ∧ Kept (fun _ => False) w w'

set_option maxRecDepth 100000 in
set_option maxHeartbeats 4000000 in
theorem back_no (c : CfgD) (h : ¬ c.Ok) (kind i k p : Int) (w : World) : Calls Try.prog 4 #[cfgV c, .int .i64 kind, .int .i64 i, .int .i64 k, .int .i64 p] w (Good w) := by
  have HN := Lib.hid h
  have HD := Lib.hid (decide_eq_false h)
  clear h
  unfold cfgV
  go_enter Try.func4, Try.ntmps4
  go_wp2_with (first
    | (go_at_call 13; refine (alive_calls _).mono ?_; rintro e w1 ⟨rfl, hk⟩; have H5 : Hid (Blk w1 w.heap.size 24 #[.int .i64 c.t, .int .i64 c.b, .int .i64 c.wr, .int .i64 c.f, .int .u64 c.first, .int .u64 c.last]) := Lib.hid (hk.blk (Blk.new _ _ _) (fun h => h)); have k0 : w1.cell? ⟨w.heap.size, 0, none⟩ = some (.int .i64 c.t) := H5.out.cell 0; have k1 : w1.cell? ⟨w.heap.size, 1, none⟩ = some (.int .i64 c.b) := H5.out.cell 1; have k2 : w1.cell? ⟨w.heap.size, 2, none⟩ = some (.int .i64 c.wr) := H5.out.cell 2; have k3 : w1.cell? ⟨w.heap.size, 3, none⟩ = some (.int .i64 c.f) := H5.out.cell 3; have k4 : w1.cell? ⟨w.heap.size, 4, none⟩ = some (.int .u64 c.first) := H5.out.cell 4; have k5 : w1.cell? ⟨w.heap.size, 5, none⟩ = some (.int .u64 c.last) := H5.out.cell 5; have HK1 := Lib.hid (((Kept.refl (fun _ => False) w).alloc (.cells #[.int .i64 c.t, .int .i64 c.b, .int .i64 c.wr, .int .i64 c.f, .int .u64 c.first, .int .u64 c.last] 24)).trans hk); clear hk)
    | (go_at_call 14; refine (ofK_no c HN.out _).mono ?_; rintro e w2 ⟨rfl, hk⟩; have H52 := Lib.hid (hk.blk H5.out (fun h => h)); have HK2 := Lib.hid (HK1.out.trans hk); clear hk; clear k0 k1 k2 k3 k4 k5)
    | (refine wpList_store_blk ?_ 28 (.tmp 11) (.tmp 25) ?_ w2.heap.size ?_ 28 zeroA zeroA ?_ ?_ ?_ ?_ ?_ ?_; rfl; rfl; rfl; rfl; exact Blk.new _ _ _; kernel_rfl; rfl; exact zeroA_one; intro w3 hB3 hk; have H53 := Lib.hid (hk.blk (H52.out.alloc _) (by have := H52.out.lt; omega)); have HK3 : Hid (Kept (fun _ => False) w w3) := Lib.hid (Kept.fresh (HK2.out.alloc _) hk HK2.out.size); have k0 : w3.cell? ⟨w.heap.size, 0, none⟩ = some (.int .i64 c.t) := H53.out.cell 0; have k1 : w3.cell? ⟨w.heap.size, 1, none⟩ = some (.int .i64 c.b) := H53.out.cell 1; have k2 : w3.cell? ⟨w.heap.size, 2, none⟩ = some (.int .i64 c.wr) := H53.out.cell 2; have k3 : w3.cell? ⟨w.heap.size, 3, none⟩ = some (.int .i64 c.f) := H53.out.cell 3; have k4 : w3.cell? ⟨w.heap.size, 4, none⟩ = some (.int .u64 c.first) := H53.out.cell 4; have k5 : w3.cell? ⟨w.heap.size, 5, none⟩ = some (.int .u64 c.last) := H53.out.cell 5; clear hB3 hk)
    | (go_at_call 15; refine (right_calls c _).mono ?_; rintro e w4 ⟨rfl, hk⟩; rw [HD.out]; have HK4 := Lib.hid (HK3.out.trans hk); clear hk))
  go_ret
  exact ⟨rfl, HK4.out⟩

set_option maxRecDepth 100000 in
set_option maxHeartbeats 4000000 in
theorem back_yes (c : CfgD) (h : c.Ok) (kind i k p : Int) (hp : -9223372036854775808 ≤ p ∧ p ≤ 9223372036854775807) (w : World) : Calls Try.prog 4 #[cfgV c, .int .i64 kind, .int .i64 i, .int .i64 k, .int .i64 p] w (Good w) := by
  have HO := Lib.hid h
  have HB := Lib.hid h.bd
  have HZ := Lib.hid (size_bd h.bd)
  have HP := Lib.hid hp
  clear h hp
  unfold cfgV
  go_enter Try.func4, Try.ntmps4
  go_wp2_with (first
    | (go_at_call 13; refine (alive_calls _).mono ?_; rintro e w1 ⟨rfl, hk⟩; have H5 : Hid (Blk w1 w.heap.size 24 #[.int .i64 c.t, .int .i64 c.b, .int .i64 c.wr, .int .i64 c.f, .int .u64 c.first, .int .u64 c.last]) := Lib.hid (hk.blk (Blk.new _ _ _) (fun h => h)); have k0 : w1.cell? ⟨w.heap.size, 0, none⟩ = some (.int .i64 c.t) := H5.out.cell 0; have k1 : w1.cell? ⟨w.heap.size, 1, none⟩ = some (.int .i64 c.b) := H5.out.cell 1; have k2 : w1.cell? ⟨w.heap.size, 2, none⟩ = some (.int .i64 c.wr) := H5.out.cell 2; have k3 : w1.cell? ⟨w.heap.size, 3, none⟩ = some (.int .i64 c.f) := H5.out.cell 3; have k4 : w1.cell? ⟨w.heap.size, 4, none⟩ = some (.int .u64 c.first) := H5.out.cell 4; have k5 : w1.cell? ⟨w.heap.size, 5, none⟩ = some (.int .u64 c.last) := H5.out.cell 5; have HK1 := Lib.hid (((Kept.refl (fun _ => False) w).alloc (.cells #[.int .i64 c.t, .int .i64 c.b, .int .i64 c.wr, .int .i64 c.f, .int .u64 c.first, .int .u64 c.last] 24)).trans hk); clear hk)
    | (go_at_call 14; refine (ofK_yes c HO.out _).mono ?_; rintro e w2 ⟨rfl, hk⟩; have H52 := Lib.hid (hk.blk H5.out (fun h => h)); have HK2 := Lib.hid (HK1.out.trans hk); clear hk; clear k0 k1 k2 k3 k4 k5)
    | (refine wpList_store_blk ?_ 28 (.tmp 11) (.tmp 25) ?_ w2.heap.size ?_ 28 zeroA (mapA c) ?_ ?_ ?_ ?_ ?_ ?_; rfl; rfl; rfl; rfl; exact Blk.new _ _ _; kernel_rfl; rfl; exact (mapA_one c); intro w3 hB3 hk; have H53 := Lib.hid (hk.blk (H52.out.alloc _) (by have := H52.out.lt; omega)); have HM3 := Lib.hid hB3; have HK3 : Hid (Kept (fun _ => False) w w3) := Lib.hid (Kept.fresh (HK2.out.alloc _) hk HK2.out.size); have k0 : w3.cell? ⟨w.heap.size, 0, none⟩ = some (.int .i64 c.t) := H53.out.cell 0; have k1 : w3.cell? ⟨w.heap.size, 1, none⟩ = some (.int .i64 c.b) := H53.out.cell 1; have k2 : w3.cell? ⟨w.heap.size, 2, none⟩ = some (.int .i64 c.wr) := H53.out.cell 2; have k3 : w3.cell? ⟨w.heap.size, 3, none⟩ = some (.int .i64 c.f) := H53.out.cell 3; have k4 : w3.cell? ⟨w.heap.size, 4, none⟩ = some (.int .u64 c.first) := H53.out.cell 4; have k5 : w3.cell? ⟨w.heap.size, 5, none⟩ = some (.int .u64 c.last) := H53.out.cell 5; have hl := loadMap_arr HM3.out rfl; clear hB3 hk))
  refine (at_calls c HB.out kind i k _).mono ?_
  rintro e w4 ⟨rfl, hk⟩
  have HM4 := Lib.hid (hk.blk HM3.out (fun h => h))
  have HK4 := Lib.hid (HK3.out.trans hk)
  have HAT := Lib.hid (fun hne => CfgD.at_hit (kind := kind) (i := i) (k := k) HB.out hne)
  have hl4 := loadMap_arr HM4.out rfl
  clear hl hk k0 k1 k2 k3 k4 k5
  generalize c.at_ kind i k = q at *
  go_upto_if 38 with fail
  go_cut [] (fun wx => Blk wx w2.heap.size 28 (mapA c) ∧ Kept (fun _ => False) w wx)
  case first =>
    by_cases hq : q = -1
    · subst hq
      go_wp2_with fail
      go_meet
      exact ⟨HM4.out, HK4.out⟩
    · obtain ⟨g0, hh, g1, g2⟩ := HAT.out hq
      have hw := (CfgD.what_hit HB.out hh).1
      rw [Int.toNat_of_nonneg g0] at hw
      have HW := Lib.hid hw
      have hz := HZ.out
      have hq1 : (q == -1) = false := by simpa using hq
      have g3 : ¬ q < 0 := by omega
      have g4 : ¬ c.size ≤ q := by omega
      have g5 : q ≤ 30000 := by omega
      clear hq hw hh HAT hz
      go_wp2_with (first
        | (go_at_call 27; (refine (what_calls c HB.out q ⟨by omega, by omega⟩ _).mono ?_); rintro e w5 ⟨rfl, hk⟩; rw [HW.out]; have HM5 := Lib.hid (hk.blk HM4.out (fun h => h)); have HK5 := Lib.hid (HK4.out.trans hk); have hl5 := loadMap_arr HM5.out rfl; clear hl4 hk)
        | (go_at_call 23; (refine (sizeK c HB.out _).mono ?_); rintro e w6 ⟨rfl, hk⟩; have HM6 := Lib.hid (hk.blk HM5.out (fun h => h)); have HK6 := Lib.hid (HK5.out.trans hk); clear hl5 hk))
      go_meet
      exact ⟨HM6.out, HK6.out⟩
  case rest =>
    obtain ⟨hm, hk⟩ := hcut
    have HM4' := Lib.hid hm
    have HK4' := Lib.hid hk
    have hl5 := loadMap_arr hm rfl
    have p0 := HP.out.1
    have p1 := HP.out.2
    clear hm hk hl4 HAT
    by_cases hp : 0 ≤ p ∧ p < c.size
    · obtain ⟨kk, ii, jj, hw, hh⟩ := CfgD.hit_what HB.out hp.1 hp.2
      have HW := Lib.hid hw
      have HA := Lib.hid (CfgD.at_of_hit hh)
      obtain ⟨pa, pb⟩ := hp
      have g1 : ¬ p < 0 := by omega
      have g2 : ¬ c.size ≤ p := by omega
      have g3 : ((kk : Int) == -1) = false := by first | (simp; done) | (simp; omega)
      clear hw hh
      go_wp2_with (first
        | (go_at_call 27; (refine (what_calls c HB.out p ⟨by omega, by omega⟩ _).mono ?_); rintro e w5 ⟨rfl, hk⟩; rw [HW.out]; have HM5 := Lib.hid (hk.blk HM4'.out (fun h => h)); have HK5 := Lib.hid (HK4'.out.trans hk); have hl6 := loadMap_arr HM5.out rfl; clear hl5 hk)
        | (go_at_call 23; (refine (sizeK c HB.out _).mono ?_); rintro e w6 ⟨rfl, hk⟩; have HM6 := Lib.hid (hk.blk HM5.out (fun h => h)); have HK6 := Lib.hid (HK5.out.trans hk); have hl7 := loadMap_arr HM6.out rfl; clear hl6 hk)
        | (go_at_call 25; (refine (at_calls c HB.out _ _ _ _).mono ?_); rintro e w7 ⟨rfl, hk⟩; rw [HA.out]; have HK7 := Lib.hid (HK6.out.trans hk); clear hl7 hk))
      go_ret
      exact ⟨by simp, HK7.out⟩
    · have HW := Lib.hid (CfgD.what_out HB.out (p := p) (by omega))
      by_cases hn : p < 0
      · clear hp
        go_wp2_with (first
          | (go_at_call 27; (refine (what_calls c HB.out p ⟨by omega, by omega⟩ _).mono ?_); rintro e w5 ⟨rfl, hk⟩; rw [HW.out]; have HK5 := Lib.hid (HK4'.out.trans hk); clear hl5 hk))
        go_ret
        exact ⟨by simp, HK5.out⟩
      · have g2 : c.size ≤ p := by omega
        clear hp
        go_wp2_with (first
          | (go_at_call 27; (refine (what_calls c HB.out p ⟨by omega, by omega⟩ _).mono ?_); rintro e w5 ⟨rfl, hk⟩; rw [HW.out]; have HM5 := Lib.hid (hk.blk HM4'.out (fun h => h)); have HK5 := Lib.hid (HK4'.out.trans hk); have hl6 := loadMap_arr HM5.out rfl; clear hl5 hk)
          | (go_at_call 23; (refine (sizeK c HB.out _).mono ?_); rintro e w6 ⟨rfl, hk⟩; have HK6 := Lib.hid (HK5.out.trans hk); clear hl6 hk))
        go_ret
        exact ⟨by simp, HK6.out⟩

theorem back_walk (c : CfgD) (kind i k p : Int) (w : World) (_ : Int64 kind) (_ : Int64 i) (_ : Int64 k) (hp : Int64 p) : Calls Try.prog 4 #[cfgV c, .int .i64 kind, .int .i64 i, .int .i64 k, .int .i64 p] w (Good w) := by
  by_cases h : c.Ok
  · exact back_yes c h kind i k p hp w
  · exact back_no c h kind i k p w
end Go.Proofs.Ytlpmgbimffmmkaa
