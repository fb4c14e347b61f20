/- LayApart: the walk of the law. -/
import Derived.Test.YtlpmgbimffmmkaaLyX
namespace Go.Proofs.Ytlpmgbimffmmkaa
open Go.RowKit
attribute [local go_sem ↓] loadMap_eq

set_option maxRecDepth 100000 in
set_option maxHeartbeats 4000000 in
theorem apart_no (c : CfgD) (h : ¬ c.Ok) (kind i k other j l : Int) (w : World) : Calls Try.prog 7 #[cfgV c, .int .i64 kind, .int .i64 i, .int .i64 k, .int .i64 other, .int .i64 j, .int .i64 l] w (Good w) := by
  have HN := Lib.hid h
  have HD := Lib.hid (decide_eq_false h)
  clear h
  unfold cfgV
  go_enter Try.func7, Try.ntmps7
  go_wp2_with (first
    | (go_at_call 13; refine (alive_calls _).mono ?_; rintro e w1 ⟨rfl, hk⟩; have H5 : Hid (Blk w1 w.heap.size 24 #[.int .i64 c.t, .int .i64 c.b, .int .i64 c.wr, .int .i64 c.f, .int .u64 c.first, .int .u64 c.last]) := Lib.hid (hk.blk (Blk.new _ _ _) (fun h => h)); have k0 : w1.cell? ⟨w.heap.size, 0, none⟩ = some (.int .i64 c.t) := H5.out.cell 0; have k1 : w1.cell? ⟨w.heap.size, 1, none⟩ = some (.int .i64 c.b) := H5.out.cell 1; have k2 : w1.cell? ⟨w.heap.size, 2, none⟩ = some (.int .i64 c.wr) := H5.out.cell 2; have k3 : w1.cell? ⟨w.heap.size, 3, none⟩ = some (.int .i64 c.f) := H5.out.cell 3; have k4 : w1.cell? ⟨w.heap.size, 4, none⟩ = some (.int .u64 c.first) := H5.out.cell 4; have k5 : w1.cell? ⟨w.heap.size, 5, none⟩ = some (.int .u64 c.last) := H5.out.cell 5; have HK1 := Lib.hid (((Kept.refl (fun _ => False) w).alloc (.cells #[.int .i64 c.t, .int .i64 c.b, .int .i64 c.wr, .int .i64 c.f, .int .u64 c.first, .int .u64 c.last] 24)).trans hk); clear hk)
    | (go_at_call 14; refine (ofK_no c HN.out _).mono ?_; rintro e w2 ⟨rfl, hk⟩; have H52 := Lib.hid (hk.blk H5.out (fun h => h)); have HK2 := Lib.hid (HK1.out.trans hk); clear hk; clear k0 k1 k2 k3 k4 k5)
    | (refine wpList_store_blk ?_ 28 (.tmp 15) (.tmp 24) ?_ w2.heap.size ?_ 28 zeroA zeroA ?_ ?_ ?_ ?_ ?_ ?_; rfl; rfl; rfl; rfl; exact Blk.new _ _ _; kernel_rfl; rfl; exact zeroA_one; intro w3 hB3 hk; have H53 := Lib.hid (hk.blk (H52.out.alloc _) (by have := H52.out.lt; omega)); have HK3 : Hid (Kept (fun _ => False) w w3) := Lib.hid (Kept.fresh (HK2.out.alloc _) hk HK2.out.size); have k0 : w3.cell? ⟨w.heap.size, 0, none⟩ = some (.int .i64 c.t) := H53.out.cell 0; have k1 : w3.cell? ⟨w.heap.size, 1, none⟩ = some (.int .i64 c.b) := H53.out.cell 1; have k2 : w3.cell? ⟨w.heap.size, 2, none⟩ = some (.int .i64 c.wr) := H53.out.cell 2; have k3 : w3.cell? ⟨w.heap.size, 3, none⟩ = some (.int .i64 c.f) := H53.out.cell 3; have k4 : w3.cell? ⟨w.heap.size, 4, none⟩ = some (.int .u64 c.first) := H53.out.cell 4; have k5 : w3.cell? ⟨w.heap.size, 5, none⟩ = some (.int .u64 c.last) := H53.out.cell 5; clear hB3 hk)
    | (go_at_call 15; refine (right_calls c _).mono ?_; rintro e w4 ⟨rfl, hk⟩; rw [HD.out]; have HK4 := Lib.hid (HK3.out.trans hk); clear hk))
  go_ret
  exact ⟨rfl, HK4.out⟩

set_option maxRecDepth 100000 in
set_option maxHeartbeats 4000000 in
theorem apart_yes (c : CfgD) (h : c.Ok) (kind i k other j l : Int) (w : World) : Calls Try.prog 7 #[cfgV c, .int .i64 kind, .int .i64 i, .int .i64 k, .int .i64 other, .int .i64 j, .int .i64 l] w (Good w) := by
  have HO := Lib.hid h
  have HB := Lib.hid h.bd
  have HZ := Lib.hid (size_bd h.bd)
  clear h
  unfold cfgV
  go_enter Try.func7, Try.ntmps7
  go_wp2_with (first
    | (go_at_call 13; refine (alive_calls _).mono ?_; rintro e w1 ⟨rfl, hk⟩; have H5 : Hid (Blk w1 w.heap.size 24 #[.int .i64 c.t, .int .i64 c.b, .int .i64 c.wr, .int .i64 c.f, .int .u64 c.first, .int .u64 c.last]) := Lib.hid (hk.blk (Blk.new _ _ _) (fun h => h)); have k0 : w1.cell? ⟨w.heap.size, 0, none⟩ = some (.int .i64 c.t) := H5.out.cell 0; have k1 : w1.cell? ⟨w.heap.size, 1, none⟩ = some (.int .i64 c.b) := H5.out.cell 1; have k2 : w1.cell? ⟨w.heap.size, 2, none⟩ = some (.int .i64 c.wr) := H5.out.cell 2; have k3 : w1.cell? ⟨w.heap.size, 3, none⟩ = some (.int .i64 c.f) := H5.out.cell 3; have k4 : w1.cell? ⟨w.heap.size, 4, none⟩ = some (.int .u64 c.first) := H5.out.cell 4; have k5 : w1.cell? ⟨w.heap.size, 5, none⟩ = some (.int .u64 c.last) := H5.out.cell 5; have HK1 := Lib.hid (((Kept.refl (fun _ => False) w).alloc (.cells #[.int .i64 c.t, .int .i64 c.b, .int .i64 c.wr, .int .i64 c.f, .int .u64 c.first, .int .u64 c.last] 24)).trans hk); clear hk)
    | (go_at_call 14; refine (ofK_yes c HO.out _).mono ?_; rintro e w2 ⟨rfl, hk⟩; have H52 := Lib.hid (hk.blk H5.out (fun h => h)); have HK2 := Lib.hid (HK1.out.trans hk); clear hk; clear k0 k1 k2 k3 k4 k5)
    | (refine wpList_store_blk ?_ 28 (.tmp 15) (.tmp 24) ?_ w2.heap.size ?_ 28 zeroA (mapA c) ?_ ?_ ?_ ?_ ?_ ?_; rfl; rfl; rfl; rfl; exact Blk.new _ _ _; kernel_rfl; rfl; exact (mapA_one c); intro w3 hB3 hk; have H53 := Lib.hid (hk.blk (H52.out.alloc _) (by have := H52.out.lt; omega)); have HM3 := Lib.hid hB3; have HK3 : Hid (Kept (fun _ => False) w w3) := Lib.hid (Kept.fresh (HK2.out.alloc _) hk HK2.out.size); have k0 : w3.cell? ⟨w.heap.size, 0, none⟩ = some (.int .i64 c.t) := H53.out.cell 0; have k1 : w3.cell? ⟨w.heap.size, 1, none⟩ = some (.int .i64 c.b) := H53.out.cell 1; have k2 : w3.cell? ⟨w.heap.size, 2, none⟩ = some (.int .i64 c.wr) := H53.out.cell 2; have k3 : w3.cell? ⟨w.heap.size, 3, none⟩ = some (.int .i64 c.f) := H53.out.cell 3; have k4 : w3.cell? ⟨w.heap.size, 4, none⟩ = some (.int .u64 c.first) := H53.out.cell 4; have k5 : w3.cell? ⟨w.heap.size, 5, none⟩ = some (.int .u64 c.last) := H53.out.cell 5; have hl := loadMap_arr HM3.out rfl; clear hB3 hk))
  clear hl k0 k1 k2 k3 k4 k5
  go_region_held3 (fun w' => (loadMap ⟨w2.heap.size, 0, none⟩).run Try.prog w' = .ok (.agg (mapA c)) w')
    (first | assumption | exact loadMap_arr HM5.out rfl | exact loadMap_arr HM4.out rfl | exact loadMap_arr (show Blk _ w2.heap.size 28 (mapA c) from HM3.out) rfl)
    (first
      | (go_at_call 25; (refine (at_calls c HB.out _ _ _ _).mono ?_); rintro e w5 ⟨rfl, hk⟩; have HM5 := Lib.hid (hk.blk HM4.out (fun h => h)); have HK5 := Lib.hid (HK4.out.trans hk); clear hk)
      | (go_at_call 25; (refine (at_calls c HB.out _ _ _ _).mono ?_); rintro e w4 ⟨rfl, hk⟩; have HM4 := Lib.hid (hk.blk (show Blk _ w2.heap.size 28 (mapA c) from HM3.out) (fun h => h)); have HK4 := Lib.hid (HK3.out.drew.trans hk); clear hk))
  have HA := Lib.hid (fun hne => CfgD.at_hit (kind := kind) (i := i) (k := k) HB.out hne)
  have HC := Lib.hid (fun hne => CfgD.at_hit (kind := other) (i := j) (k := l) HB.out hne)
  generalize c.at_ kind i k = a at *
  generalize c.at_ other j l = b at *
  by_cases ha : a = -1
  · subst ha
    go_wp2_with fail
    go_ret
    exact ⟨rfl, HK5.out⟩
  by_cases hb : b = -1
  · subst hb
    have ha1 : (a == -1) = false := by simpa using ha
    clear ha HA HC
    go_wp2_with fail
    go_ret
    exact ⟨rfl, HK5.out⟩
  have ha1 : (a == -1) = false := by simpa using ha
  have hb1 : (b == -1) = false := by simpa using hb
  obtain ⟨a0, ah, a1, a2⟩ := HA.out ha
  obtain ⟨b0, bh, b1, b2⟩ := HC.out hb
  have hz := HZ.out.2.1
  have sa := CfgD.shape_bd HB.out _ ah.1
  have sb := CfgD.shape_bd HB.out _ bh.1
  have ka : 0 ≤ k ∧ k ≤ 5000 := by have := ah.2.2.2; omega
  have la : 0 ≤ l ∧ l ≤ 5000 := by have := bh.2.2.2; omega
  have a3 : a ≤ 20000 := by omega
  have b3 : b ≤ 20000 := by omega
  have HAH := Lib.hid ah
  have HBH := Lib.hid bh
  have H1 := Lib.hid (CfgD.hit_one HB.out (p := a) (k := kind.toNat) (k' := other.toNat) (i := i) (i' := j) (j := k) (j' := l))
  obtain ⟨ka0, ka1⟩ := ka
  obtain ⟨la0, la1⟩ := la
  clear ha hb HA HC ah bh sa sb hz a2 b2
  by_cases h1 : kind = other
  · have e1 : (kind == other) = true := by simpa using h1
    by_cases h2 : i = j
    · have e2 : (i == j) = true := by simpa using h2
      have hd : b - a = l - k := by
        obtain ⟨_, _, _, _, _, pa⟩ := HAH.out
        obtain ⟨_, _, _, _, _, pb⟩ := HBH.out
        rw [← h1, ← h2] at pb
        omega
      have e3 : (b - a == l - k) = true := by simpa using hd
      have e4 : (b - a != l - k) = false := by simpa using hd
      by_cases h3 : k = l
      · have e5 : (k == l) = true := by simpa using h3
        have e6 : (a == b) = true := by simp; omega
        clear h1 h2 h3 hd
        go_wp2_with fail
        go_ret
        exact ⟨by simp, HK5.out⟩
      · have e5 : (k == l) = false := by simpa using h3
        have e6 : (a == b) = false := by simp; omega
        clear h1 h2 h3 hd
        go_wp2_with fail
        go_ret
        exact ⟨by simp, HK5.out⟩
    · have e2 : (i == j) = false := by simpa using h2
      have e6 : (a == b) = false := by
        simp only [beq_eq_false_iff_ne, ne_eq]
        intro h
        subst h
        exact h2 (H1.out HAH.out HBH.out).2.1
      clear h1 h2
      go_wp2_with fail
      go_ret
      exact ⟨by simp, HK5.out⟩
  · have e1 : (kind == other) = false := by simpa using h1
    have e6 : (a == b) = false := by
      simp only [beq_eq_false_iff_ne, ne_eq]
      intro h
      subst h
      have := (H1.out HAH.out HBH.out).1
      omega
    clear h1
    go_wp2_with fail
    go_ret
    exact ⟨by simp, HK5.out⟩

theorem apart_walk (c : CfgD) (kind i k other j l : Int) (w : World) (_ : Int64 kind) (_ : Int64 i) (_ : Int64 k) (_ : Int64 other) (_ : Int64 j) (_ : Int64 l) : Calls Try.prog 7 #[cfgV c, .int .i64 kind, .int .i64 i, .int .i64 k, .int .i64 other, .int .i64 j, .int .i64 l] w (Good w) := by
  by_cases h : c.Ok
  · exact apart_yes c h kind i k other j l w
  · exact apart_no c h kind i k other j l w
end Go.Proofs.Ytlpmgbimffmmkaa
