/- Layer 7 (lay): the document's At. -/
import Derived.Test.YthjkodjpopcjaaaLyRa
namespace Go.Proofs.Ythjkodjpopcjaaa
open Go.RowKit

set_option maxRecDepth 100000 in
set_option maxHeartbeats 4000000 in
theorem rAt_kind (c : CfgD) (kind i k : Int) (hk : kind < 0 ∨ 17 ≤ kind) (w : World) : Calls Try.prog 59 #[cfgV c, .int .i64 kind, .int .i64 i, .int .i64 k] w fun e w' => e = .returned (.int .i64 (-1)) ∧ Kept (fun _ => False) w w' := by
  rcases hk with g | g
  · unfold cfgV
    go_enter Try.func59, Try.ntmps59
    go_wp2_with fail
    go_ret
    exact ⟨rfl, (Kept.refl _ w).alloc _⟩
  · have g0 : ¬ kind < 0 := by omega
    unfold cfgV
    go_enter Try.func59, Try.ntmps59
    go_wp2_with fail
    go_ret
    exact ⟨rfl, (Kept.refl _ w).alloc _⟩

set_option maxRecDepth 100000 in
set_option maxHeartbeats 4000000 in
theorem rAt_i0 (c : CfgD) (n : Nat) (hn : n < 17) (i k : Int) (g1 : i < 0) (w : World) : Calls Try.prog 59 #[cfgV c, .int .i64 (n : Int), .int .i64 i, .int .i64 k] w fun e w' => e = .returned (.int .i64 (-1)) ∧ Kept (fun _ => False) w w' := by
  unfold cfgV
  go_enter Try.func59, Try.ntmps59
  go_wp2_with fail
  go_ret
  exact ⟨rfl, (Kept.refl _ w).alloc _⟩

set_option maxRecDepth 100000 in
set_option maxHeartbeats 4000000 in
theorem rAt_i1 (c : CfgD) (h : c.Bd) (n : Nat) (hn : n < 17) (i k : Int) (g0 : 0 ≤ i) (g1 : c.things n ≤ i) (w : World) : Calls Try.prog 59 #[cfgV c, .int .i64 (n : Int), .int .i64 i, .int .i64 k] w fun e w' => e = .returned (.int .i64 (-1)) ∧ Kept (fun _ => False) w w' := by
  have HH := Lib.hid h
  clear h
  unfold cfgV
  have HC : Hid (Blk (w.alloc (.cells #[.int .i64 c.t, .int .i64 c.b, .int .i64 c.wr, .int .i64 c.f, .int .u64 c.first, .int .u64 c.last] 24)) w.heap.size 24 #[.int .i64 c.t, .int .i64 c.b, .int .i64 c.wr, .int .i64 c.f, .int .u64 c.first, .int .u64 c.last]) := Lib.hid (Blk.new _ _ _)
  have HK : Hid (Kept (fun _ => False) w (w.alloc (.cells #[.int .i64 c.t, .int .i64 c.b, .int .i64 c.wr, .int .i64 c.f, .int .u64 c.first, .int .u64 c.last] 24))) := Lib.hid ((Kept.refl _ w).alloc _)
  have k0 : (w.alloc (.cells #[.int .i64 c.t, .int .i64 c.b, .int .i64 c.wr, .int .i64 c.f, .int .u64 c.first, .int .u64 c.last] 24)).cell? ⟨w.heap.size, 0, none⟩ = some (.int .i64 c.t) := HC.out.cell 0
  have k1 : (w.alloc (.cells #[.int .i64 c.t, .int .i64 c.b, .int .i64 c.wr, .int .i64 c.f, .int .u64 c.first, .int .u64 c.last] 24)).cell? ⟨w.heap.size, 1, none⟩ = some (.int .i64 c.b) := HC.out.cell 1
  have k2 : (w.alloc (.cells #[.int .i64 c.t, .int .i64 c.b, .int .i64 c.wr, .int .i64 c.f, .int .u64 c.first, .int .u64 c.last] 24)).cell? ⟨w.heap.size, 2, none⟩ = some (.int .i64 c.wr) := HC.out.cell 2
  have k3 : (w.alloc (.cells #[.int .i64 c.t, .int .i64 c.b, .int .i64 c.wr, .int .i64 c.f, .int .u64 c.first, .int .u64 c.last] 24)).cell? ⟨w.heap.size, 3, none⟩ = some (.int .i64 c.f) := HC.out.cell 3
  have k4 : (w.alloc (.cells #[.int .i64 c.t, .int .i64 c.b, .int .i64 c.wr, .int .i64 c.f, .int .u64 c.first, .int .u64 c.last] 24)).cell? ⟨w.heap.size, 4, none⟩ = some (.int .u64 c.first) := HC.out.cell 4
  have k5 : (w.alloc (.cells #[.int .i64 c.t, .int .i64 c.b, .int .i64 c.wr, .int .i64 c.f, .int .u64 c.first, .int .u64 c.last] 24)).cell? ⟨w.heap.size, 5, none⟩ = some (.int .u64 c.last) := HC.out.cell 5
  go_enter Try.func59, Try.ntmps59
  go_wp2_with (first | (go_at_call 84; (refine (count_calls c HH.out n hn _).mono ?_); rintro e wx ⟨rfl, hk⟩; replace HC := Lib.hid (hk.blk HC.out (fun h => h)); replace k0 : wx.cell? ⟨w.heap.size, 0, none⟩ = some (.int .i64 c.t) := HC.out.cell 0; replace k1 : wx.cell? ⟨w.heap.size, 1, none⟩ = some (.int .i64 c.b) := HC.out.cell 1; replace k2 : wx.cell? ⟨w.heap.size, 2, none⟩ = some (.int .i64 c.wr) := HC.out.cell 2; replace k3 : wx.cell? ⟨w.heap.size, 3, none⟩ = some (.int .i64 c.f) := HC.out.cell 3; replace k4 : wx.cell? ⟨w.heap.size, 4, none⟩ = some (.int .u64 c.first) := HC.out.cell 4; replace k5 : wx.cell? ⟨w.heap.size, 5, none⟩ = some (.int .u64 c.last) := HC.out.cell 5; replace HK := Lib.hid (HK.out.trans hk); clear hk) | (go_at_call 85; (refine (each_calls c HH.out n hn _).mono ?_); rintro e wx ⟨rfl, hk⟩; replace HC := Lib.hid (hk.blk HC.out (fun h => h)); replace k0 : wx.cell? ⟨w.heap.size, 0, none⟩ = some (.int .i64 c.t) := HC.out.cell 0; replace k1 : wx.cell? ⟨w.heap.size, 1, none⟩ = some (.int .i64 c.b) := HC.out.cell 1; replace k2 : wx.cell? ⟨w.heap.size, 2, none⟩ = some (.int .i64 c.wr) := HC.out.cell 2; replace k3 : wx.cell? ⟨w.heap.size, 3, none⟩ = some (.int .i64 c.f) := HC.out.cell 3; replace k4 : wx.cell? ⟨w.heap.size, 4, none⟩ = some (.int .u64 c.first) := HC.out.cell 4; replace k5 : wx.cell? ⟨w.heap.size, 5, none⟩ = some (.int .u64 c.last) := HC.out.cell 5; replace HK := Lib.hid (HK.out.trans hk); clear hk) | (go_at_call 86; (refine (rStride c HH.out _).mono ?_); rintro e wx ⟨rfl, hk⟩; replace HC := Lib.hid (hk.blk HC.out (fun h => h)); replace k0 : wx.cell? ⟨w.heap.size, 0, none⟩ = some (.int .i64 c.t) := HC.out.cell 0; replace k1 : wx.cell? ⟨w.heap.size, 1, none⟩ = some (.int .i64 c.b) := HC.out.cell 1; replace k2 : wx.cell? ⟨w.heap.size, 2, none⟩ = some (.int .i64 c.wr) := HC.out.cell 2; replace k3 : wx.cell? ⟨w.heap.size, 3, none⟩ = some (.int .i64 c.f) := HC.out.cell 3; replace k4 : wx.cell? ⟨w.heap.size, 4, none⟩ = some (.int .u64 c.first) := HC.out.cell 4; replace k5 : wx.cell? ⟨w.heap.size, 5, none⟩ = some (.int .u64 c.last) := HC.out.cell 5; replace HK := Lib.hid (HK.out.trans hk); clear hk) | (go_at_call 87; (refine (from_calls c HH.out n hn _).mono ?_); rintro e wx ⟨rfl, hk⟩; replace HC := Lib.hid (hk.blk HC.out (fun h => h)); replace k0 : wx.cell? ⟨w.heap.size, 0, none⟩ = some (.int .i64 c.t) := HC.out.cell 0; replace k1 : wx.cell? ⟨w.heap.size, 1, none⟩ = some (.int .i64 c.b) := HC.out.cell 1; replace k2 : wx.cell? ⟨w.heap.size, 2, none⟩ = some (.int .i64 c.wr) := HC.out.cell 2; replace k3 : wx.cell? ⟨w.heap.size, 3, none⟩ = some (.int .i64 c.f) := HC.out.cell 3; replace k4 : wx.cell? ⟨w.heap.size, 4, none⟩ = some (.int .u64 c.first) := HC.out.cell 4; replace k5 : wx.cell? ⟨w.heap.size, 5, none⟩ = some (.int .u64 c.last) := HC.out.cell 5; replace HK := Lib.hid (HK.out.trans hk); clear hk))
  go_ret
  exact ⟨rfl, HK.out⟩

set_option maxRecDepth 100000 in
set_option maxHeartbeats 4000000 in
theorem rAt_k0 (c : CfgD) (h : c.Bd) (n : Nat) (hn : n < 17) (i k : Int) (g0 : 0 ≤ i) (g1 : i < c.things n) (g2 : k < 0) (w : World) : Calls Try.prog 59 #[cfgV c, .int .i64 (n : Int), .int .i64 i, .int .i64 k] w fun e w' => e = .returned (.int .i64 (-1)) ∧ Kept (fun _ => False) w w' := by
  have HH := Lib.hid h
  clear h
  unfold cfgV
  have HC : Hid (Blk (w.alloc (.cells #[.int .i64 c.t, .int .i64 c.b, .int .i64 c.wr, .int .i64 c.f, .int .u64 c.first, .int .u64 c.last] 24)) w.heap.size 24 #[.int .i64 c.t, .int .i64 c.b, .int .i64 c.wr, .int .i64 c.f, .int .u64 c.first, .int .u64 c.last]) := Lib.hid (Blk.new _ _ _)
  have HK : Hid (Kept (fun _ => False) w (w.alloc (.cells #[.int .i64 c.t, .int .i64 c.b, .int .i64 c.wr, .int .i64 c.f, .int .u64 c.first, .int .u64 c.last] 24))) := Lib.hid ((Kept.refl _ w).alloc _)
  have k0 : (w.alloc (.cells #[.int .i64 c.t, .int .i64 c.b, .int .i64 c.wr, .int .i64 c.f, .int .u64 c.first, .int .u64 c.last] 24)).cell? ⟨w.heap.size, 0, none⟩ = some (.int .i64 c.t) := HC.out.cell 0
  have k1 : (w.alloc (.cells #[.int .i64 c.t, .int .i64 c.b, .int .i64 c.wr, .int .i64 c.f, .int .u64 c.first, .int .u64 c.last] 24)).cell? ⟨w.heap.size, 1, none⟩ = some (.int .i64 c.b) := HC.out.cell 1
  have k2 : (w.alloc (.cells #[.int .i64 c.t, .int .i64 c.b, .int .i64 c.wr, .int .i64 c.f, .int .u64 c.first, .int .u64 c.last] 24)).cell? ⟨w.heap.size, 2, none⟩ = some (.int .i64 c.wr) := HC.out.cell 2
  have k3 : (w.alloc (.cells #[.int .i64 c.t, .int .i64 c.b, .int .i64 c.wr, .int .i64 c.f, .int .u64 c.first, .int .u64 c.last] 24)).cell? ⟨w.heap.size, 3, none⟩ = some (.int .i64 c.f) := HC.out.cell 3
  have k4 : (w.alloc (.cells #[.int .i64 c.t, .int .i64 c.b, .int .i64 c.wr, .int .i64 c.f, .int .u64 c.first, .int .u64 c.last] 24)).cell? ⟨w.heap.size, 4, none⟩ = some (.int .u64 c.first) := HC.out.cell 4
  have k5 : (w.alloc (.cells #[.int .i64 c.t, .int .i64 c.b, .int .i64 c.wr, .int .i64 c.f, .int .u64 c.first, .int .u64 c.last] 24)).cell? ⟨w.heap.size, 5, none⟩ = some (.int .u64 c.last) := HC.out.cell 5
  go_enter Try.func59, Try.ntmps59
  go_wp2_with (first | (go_at_call 84; (refine (count_calls c HH.out n hn _).mono ?_); rintro e wx ⟨rfl, hk⟩; replace HC := Lib.hid (hk.blk HC.out (fun h => h)); replace k0 : wx.cell? ⟨w.heap.size, 0, none⟩ = some (.int .i64 c.t) := HC.out.cell 0; replace k1 : wx.cell? ⟨w.heap.size, 1, none⟩ = some (.int .i64 c.b) := HC.out.cell 1; replace k2 : wx.cell? ⟨w.heap.size, 2, none⟩ = some (.int .i64 c.wr) := HC.out.cell 2; replace k3 : wx.cell? ⟨w.heap.size, 3, none⟩ = some (.int .i64 c.f) := HC.out.cell 3; replace k4 : wx.cell? ⟨w.heap.size, 4, none⟩ = some (.int .u64 c.first) := HC.out.cell 4; replace k5 : wx.cell? ⟨w.heap.size, 5, none⟩ = some (.int .u64 c.last) := HC.out.cell 5; replace HK := Lib.hid (HK.out.trans hk); clear hk) | (go_at_call 85; (refine (each_calls c HH.out n hn _).mono ?_); rintro e wx ⟨rfl, hk⟩; replace HC := Lib.hid (hk.blk HC.out (fun h => h)); replace k0 : wx.cell? ⟨w.heap.size, 0, none⟩ = some (.int .i64 c.t) := HC.out.cell 0; replace k1 : wx.cell? ⟨w.heap.size, 1, none⟩ = some (.int .i64 c.b) := HC.out.cell 1; replace k2 : wx.cell? ⟨w.heap.size, 2, none⟩ = some (.int .i64 c.wr) := HC.out.cell 2; replace k3 : wx.cell? ⟨w.heap.size, 3, none⟩ = some (.int .i64 c.f) := HC.out.cell 3; replace k4 : wx.cell? ⟨w.heap.size, 4, none⟩ = some (.int .u64 c.first) := HC.out.cell 4; replace k5 : wx.cell? ⟨w.heap.size, 5, none⟩ = some (.int .u64 c.last) := HC.out.cell 5; replace HK := Lib.hid (HK.out.trans hk); clear hk) | (go_at_call 86; (refine (rStride c HH.out _).mono ?_); rintro e wx ⟨rfl, hk⟩; replace HC := Lib.hid (hk.blk HC.out (fun h => h)); replace k0 : wx.cell? ⟨w.heap.size, 0, none⟩ = some (.int .i64 c.t) := HC.out.cell 0; replace k1 : wx.cell? ⟨w.heap.size, 1, none⟩ = some (.int .i64 c.b) := HC.out.cell 1; replace k2 : wx.cell? ⟨w.heap.size, 2, none⟩ = some (.int .i64 c.wr) := HC.out.cell 2; replace k3 : wx.cell? ⟨w.heap.size, 3, none⟩ = some (.int .i64 c.f) := HC.out.cell 3; replace k4 : wx.cell? ⟨w.heap.size, 4, none⟩ = some (.int .u64 c.first) := HC.out.cell 4; replace k5 : wx.cell? ⟨w.heap.size, 5, none⟩ = some (.int .u64 c.last) := HC.out.cell 5; replace HK := Lib.hid (HK.out.trans hk); clear hk) | (go_at_call 87; (refine (from_calls c HH.out n hn _).mono ?_); rintro e wx ⟨rfl, hk⟩; replace HC := Lib.hid (hk.blk HC.out (fun h => h)); replace k0 : wx.cell? ⟨w.heap.size, 0, none⟩ = some (.int .i64 c.t) := HC.out.cell 0; replace k1 : wx.cell? ⟨w.heap.size, 1, none⟩ = some (.int .i64 c.b) := HC.out.cell 1; replace k2 : wx.cell? ⟨w.heap.size, 2, none⟩ = some (.int .i64 c.wr) := HC.out.cell 2; replace k3 : wx.cell? ⟨w.heap.size, 3, none⟩ = some (.int .i64 c.f) := HC.out.cell 3; replace k4 : wx.cell? ⟨w.heap.size, 4, none⟩ = some (.int .u64 c.first) := HC.out.cell 4; replace k5 : wx.cell? ⟨w.heap.size, 5, none⟩ = some (.int .u64 c.last) := HC.out.cell 5; replace HK := Lib.hid (HK.out.trans hk); clear hk))
  go_ret
  exact ⟨rfl, HK.out⟩

set_option maxRecDepth 100000 in
set_option maxHeartbeats 4000000 in
theorem rAt_k1 (c : CfgD) (h : c.Bd) (n : Nat) (hn : n < 17) (i k : Int) (g0 : 0 ≤ i) (g1 : i < c.things n) (g2 : 0 ≤ k) (g3 : c.places n ≤ k) (w : World) : Calls Try.prog 59 #[cfgV c, .int .i64 (n : Int), .int .i64 i, .int .i64 k] w fun e w' => e = .returned (.int .i64 (-1)) ∧ Kept (fun _ => False) w w' := by
  have HH := Lib.hid h
  clear h
  unfold cfgV
  have HC : Hid (Blk (w.alloc (.cells #[.int .i64 c.t, .int .i64 c.b, .int .i64 c.wr, .int .i64 c.f, .int .u64 c.first, .int .u64 c.last] 24)) w.heap.size 24 #[.int .i64 c.t, .int .i64 c.b, .int .i64 c.wr, .int .i64 c.f, .int .u64 c.first, .int .u64 c.last]) := Lib.hid (Blk.new _ _ _)
  have HK : Hid (Kept (fun _ => False) w (w.alloc (.cells #[.int .i64 c.t, .int .i64 c.b, .int .i64 c.wr, .int .i64 c.f, .int .u64 c.first, .int .u64 c.last] 24))) := Lib.hid ((Kept.refl _ w).alloc _)
  have k0 : (w.alloc (.cells #[.int .i64 c.t, .int .i64 c.b, .int .i64 c.wr, .int .i64 c.f, .int .u64 c.first, .int .u64 c.last] 24)).cell? ⟨w.heap.size, 0, none⟩ = some (.int .i64 c.t) := HC.out.cell 0
  have k1 : (w.alloc (.cells #[.int .i64 c.t, .int .i64 c.b, .int .i64 c.wr, .int .i64 c.f, .int .u64 c.first, .int .u64 c.last] 24)).cell? ⟨w.heap.size, 1, none⟩ = some (.int .i64 c.b) := HC.out.cell 1
  have k2 : (w.alloc (.cells #[.int .i64 c.t, .int .i64 c.b, .int .i64 c.wr, .int .i64 c.f, .int .u64 c.first, .int .u64 c.last] 24)).cell? ⟨w.heap.size, 2, none⟩ = some (.int .i64 c.wr) := HC.out.cell 2
  have k3 : (w.alloc (.cells #[.int .i64 c.t, .int .i64 c.b, .int .i64 c.wr, .int .i64 c.f, .int .u64 c.first, .int .u64 c.last] 24)).cell? ⟨w.heap.size, 3, none⟩ = some (.int .i64 c.f) := HC.out.cell 3
  have k4 : (w.alloc (.cells #[.int .i64 c.t, .int .i64 c.b, .int .i64 c.wr, .int .i64 c.f, .int .u64 c.first, .int .u64 c.last] 24)).cell? ⟨w.heap.size, 4, none⟩ = some (.int .u64 c.first) := HC.out.cell 4
  have k5 : (w.alloc (.cells #[.int .i64 c.t, .int .i64 c.b, .int .i64 c.wr, .int .i64 c.f, .int .u64 c.first, .int .u64 c.last] 24)).cell? ⟨w.heap.size, 5, none⟩ = some (.int .u64 c.last) := HC.out.cell 5
  go_enter Try.func59, Try.ntmps59
  go_wp2_with (first | (go_at_call 84; (refine (count_calls c HH.out n hn _).mono ?_); rintro e wx ⟨rfl, hk⟩; replace HC := Lib.hid (hk.blk HC.out (fun h => h)); replace k0 : wx.cell? ⟨w.heap.size, 0, none⟩ = some (.int .i64 c.t) := HC.out.cell 0; replace k1 : wx.cell? ⟨w.heap.size, 1, none⟩ = some (.int .i64 c.b) := HC.out.cell 1; replace k2 : wx.cell? ⟨w.heap.size, 2, none⟩ = some (.int .i64 c.wr) := HC.out.cell 2; replace k3 : wx.cell? ⟨w.heap.size, 3, none⟩ = some (.int .i64 c.f) := HC.out.cell 3; replace k4 : wx.cell? ⟨w.heap.size, 4, none⟩ = some (.int .u64 c.first) := HC.out.cell 4; replace k5 : wx.cell? ⟨w.heap.size, 5, none⟩ = some (.int .u64 c.last) := HC.out.cell 5; replace HK := Lib.hid (HK.out.trans hk); clear hk) | (go_at_call 85; (refine (each_calls c HH.out n hn _).mono ?_); rintro e wx ⟨rfl, hk⟩; replace HC := Lib.hid (hk.blk HC.out (fun h => h)); replace k0 : wx.cell? ⟨w.heap.size, 0, none⟩ = some (.int .i64 c.t) := HC.out.cell 0; replace k1 : wx.cell? ⟨w.heap.size, 1, none⟩ = some (.int .i64 c.b) := HC.out.cell 1; replace k2 : wx.cell? ⟨w.heap.size, 2, none⟩ = some (.int .i64 c.wr) := HC.out.cell 2; replace k3 : wx.cell? ⟨w.heap.size, 3, none⟩ = some (.int .i64 c.f) := HC.out.cell 3; replace k4 : wx.cell? ⟨w.heap.size, 4, none⟩ = some (.int .u64 c.first) := HC.out.cell 4; replace k5 : wx.cell? ⟨w.heap.size, 5, none⟩ = some (.int .u64 c.last) := HC.out.cell 5; replace HK := Lib.hid (HK.out.trans hk); clear hk) | (go_at_call 86; (refine (rStride c HH.out _).mono ?_); rintro e wx ⟨rfl, hk⟩; replace HC := Lib.hid (hk.blk HC.out (fun h => h)); replace k0 : wx.cell? ⟨w.heap.size, 0, none⟩ = some (.int .i64 c.t) := HC.out.cell 0; replace k1 : wx.cell? ⟨w.heap.size, 1, none⟩ = some (.int .i64 c.b) := HC.out.cell 1; replace k2 : wx.cell? ⟨w.heap.size, 2, none⟩ = some (.int .i64 c.wr) := HC.out.cell 2; replace k3 : wx.cell? ⟨w.heap.size, 3, none⟩ = some (.int .i64 c.f) := HC.out.cell 3; replace k4 : wx.cell? ⟨w.heap.size, 4, none⟩ = some (.int .u64 c.first) := HC.out.cell 4; replace k5 : wx.cell? ⟨w.heap.size, 5, none⟩ = some (.int .u64 c.last) := HC.out.cell 5; replace HK := Lib.hid (HK.out.trans hk); clear hk) | (go_at_call 87; (refine (from_calls c HH.out n hn _).mono ?_); rintro e wx ⟨rfl, hk⟩; replace HC := Lib.hid (hk.blk HC.out (fun h => h)); replace k0 : wx.cell? ⟨w.heap.size, 0, none⟩ = some (.int .i64 c.t) := HC.out.cell 0; replace k1 : wx.cell? ⟨w.heap.size, 1, none⟩ = some (.int .i64 c.b) := HC.out.cell 1; replace k2 : wx.cell? ⟨w.heap.size, 2, none⟩ = some (.int .i64 c.wr) := HC.out.cell 2; replace k3 : wx.cell? ⟨w.heap.size, 3, none⟩ = some (.int .i64 c.f) := HC.out.cell 3; replace k4 : wx.cell? ⟨w.heap.size, 4, none⟩ = some (.int .u64 c.first) := HC.out.cell 4; replace k5 : wx.cell? ⟨w.heap.size, 5, none⟩ = some (.int .u64 c.last) := HC.out.cell 5; replace HK := Lib.hid (HK.out.trans hk); clear hk))
  go_ret
  exact ⟨rfl, HK.out⟩

set_option maxRecDepth 100000 in
set_option maxHeartbeats 4000000 in
theorem rAt_there_a (c : CfgD) (h : c.Bd) (n : Nat) (hn : n < 17) (hc : n = 0) (i k : Int) (g0 : 0 ≤ i) (g1 : i < c.things n) (g2 : 0 ≤ k) (g3 : k < c.places n) (ha : c.apart n = c.places n) (w : World) :
    Calls Try.prog 59 #[cfgV c, .int .i64 (n : Int), .int .i64 i, .int .i64 k] w fun e w' => e = .returned (.int .i64 (c.beg n + i * (c.places n) + k)) ∧ Kept (fun _ => False) w w' := by
  have HH := Lib.hid h
  obtain ⟨a1, a2, a3, a4, a5, a6, a7⟩ := CfgD.shape_bd h n hn
  rw [ha] at a4 a5
  have m0 : 0 ≤ i * (c.places n) := Int.mul_nonneg g0 (by omega)
  have m1 : i * (c.places n) ≤ 520 * 2106 := Int.mul_le_mul (by omega) a5 (by omega) (by omega)
  clear h ha
  have c1 : n ≤ 0 := by omega
  clear hc
  unfold cfgV
  have HC : Hid (Blk (w.alloc (.cells #[.int .i64 c.t, .int .i64 c.b, .int .i64 c.wr, .int .i64 c.f, .int .u64 c.first, .int .u64 c.last] 24)) w.heap.size 24 #[.int .i64 c.t, .int .i64 c.b, .int .i64 c.wr, .int .i64 c.f, .int .u64 c.first, .int .u64 c.last]) := Lib.hid (Blk.new _ _ _)
  have HK : Hid (Kept (fun _ => False) w (w.alloc (.cells #[.int .i64 c.t, .int .i64 c.b, .int .i64 c.wr, .int .i64 c.f, .int .u64 c.first, .int .u64 c.last] 24))) := Lib.hid ((Kept.refl _ w).alloc _)
  have k0 : (w.alloc (.cells #[.int .i64 c.t, .int .i64 c.b, .int .i64 c.wr, .int .i64 c.f, .int .u64 c.first, .int .u64 c.last] 24)).cell? ⟨w.heap.size, 0, none⟩ = some (.int .i64 c.t) := HC.out.cell 0
  have k1 : (w.alloc (.cells #[.int .i64 c.t, .int .i64 c.b, .int .i64 c.wr, .int .i64 c.f, .int .u64 c.first, .int .u64 c.last] 24)).cell? ⟨w.heap.size, 1, none⟩ = some (.int .i64 c.b) := HC.out.cell 1
  have k2 : (w.alloc (.cells #[.int .i64 c.t, .int .i64 c.b, .int .i64 c.wr, .int .i64 c.f, .int .u64 c.first, .int .u64 c.last] 24)).cell? ⟨w.heap.size, 2, none⟩ = some (.int .i64 c.wr) := HC.out.cell 2
  have k3 : (w.alloc (.cells #[.int .i64 c.t, .int .i64 c.b, .int .i64 c.wr, .int .i64 c.f, .int .u64 c.first, .int .u64 c.last] 24)).cell? ⟨w.heap.size, 3, none⟩ = some (.int .i64 c.f) := HC.out.cell 3
  have k4 : (w.alloc (.cells #[.int .i64 c.t, .int .i64 c.b, .int .i64 c.wr, .int .i64 c.f, .int .u64 c.first, .int .u64 c.last] 24)).cell? ⟨w.heap.size, 4, none⟩ = some (.int .u64 c.first) := HC.out.cell 4
  have k5 : (w.alloc (.cells #[.int .i64 c.t, .int .i64 c.b, .int .i64 c.wr, .int .i64 c.f, .int .u64 c.first, .int .u64 c.last] 24)).cell? ⟨w.heap.size, 5, none⟩ = some (.int .u64 c.last) := HC.out.cell 5
  go_enter Try.func59, Try.ntmps59
  go_wp2_with (first | (go_at_call 84; (refine (count_calls c HH.out n hn _).mono ?_); rintro e wx ⟨rfl, hk⟩; replace HC := Lib.hid (hk.blk HC.out (fun h => h)); replace k0 : wx.cell? ⟨w.heap.size, 0, none⟩ = some (.int .i64 c.t) := HC.out.cell 0; replace k1 : wx.cell? ⟨w.heap.size, 1, none⟩ = some (.int .i64 c.b) := HC.out.cell 1; replace k2 : wx.cell? ⟨w.heap.size, 2, none⟩ = some (.int .i64 c.wr) := HC.out.cell 2; replace k3 : wx.cell? ⟨w.heap.size, 3, none⟩ = some (.int .i64 c.f) := HC.out.cell 3; replace k4 : wx.cell? ⟨w.heap.size, 4, none⟩ = some (.int .u64 c.first) := HC.out.cell 4; replace k5 : wx.cell? ⟨w.heap.size, 5, none⟩ = some (.int .u64 c.last) := HC.out.cell 5; replace HK := Lib.hid (HK.out.trans hk); clear hk) | (go_at_call 85; (refine (each_calls c HH.out n hn _).mono ?_); rintro e wx ⟨rfl, hk⟩; replace HC := Lib.hid (hk.blk HC.out (fun h => h)); replace k0 : wx.cell? ⟨w.heap.size, 0, none⟩ = some (.int .i64 c.t) := HC.out.cell 0; replace k1 : wx.cell? ⟨w.heap.size, 1, none⟩ = some (.int .i64 c.b) := HC.out.cell 1; replace k2 : wx.cell? ⟨w.heap.size, 2, none⟩ = some (.int .i64 c.wr) := HC.out.cell 2; replace k3 : wx.cell? ⟨w.heap.size, 3, none⟩ = some (.int .i64 c.f) := HC.out.cell 3; replace k4 : wx.cell? ⟨w.heap.size, 4, none⟩ = some (.int .u64 c.first) := HC.out.cell 4; replace k5 : wx.cell? ⟨w.heap.size, 5, none⟩ = some (.int .u64 c.last) := HC.out.cell 5; replace HK := Lib.hid (HK.out.trans hk); clear hk) | (go_at_call 86; (refine (rStride c HH.out _).mono ?_); rintro e wx ⟨rfl, hk⟩; replace HC := Lib.hid (hk.blk HC.out (fun h => h)); replace k0 : wx.cell? ⟨w.heap.size, 0, none⟩ = some (.int .i64 c.t) := HC.out.cell 0; replace k1 : wx.cell? ⟨w.heap.size, 1, none⟩ = some (.int .i64 c.b) := HC.out.cell 1; replace k2 : wx.cell? ⟨w.heap.size, 2, none⟩ = some (.int .i64 c.wr) := HC.out.cell 2; replace k3 : wx.cell? ⟨w.heap.size, 3, none⟩ = some (.int .i64 c.f) := HC.out.cell 3; replace k4 : wx.cell? ⟨w.heap.size, 4, none⟩ = some (.int .u64 c.first) := HC.out.cell 4; replace k5 : wx.cell? ⟨w.heap.size, 5, none⟩ = some (.int .u64 c.last) := HC.out.cell 5; replace HK := Lib.hid (HK.out.trans hk); clear hk) | (go_at_call 87; (refine (from_calls c HH.out n hn _).mono ?_); rintro e wx ⟨rfl, hk⟩; replace HC := Lib.hid (hk.blk HC.out (fun h => h)); replace k0 : wx.cell? ⟨w.heap.size, 0, none⟩ = some (.int .i64 c.t) := HC.out.cell 0; replace k1 : wx.cell? ⟨w.heap.size, 1, none⟩ = some (.int .i64 c.b) := HC.out.cell 1; replace k2 : wx.cell? ⟨w.heap.size, 2, none⟩ = some (.int .i64 c.wr) := HC.out.cell 2; replace k3 : wx.cell? ⟨w.heap.size, 3, none⟩ = some (.int .i64 c.f) := HC.out.cell 3; replace k4 : wx.cell? ⟨w.heap.size, 4, none⟩ = some (.int .u64 c.first) := HC.out.cell 4; replace k5 : wx.cell? ⟨w.heap.size, 5, none⟩ = some (.int .u64 c.last) := HC.out.cell 5; replace HK := Lib.hid (HK.out.trans hk); clear hk))
  go_ret
  exact ⟨rfl, HK.out⟩

set_option maxRecDepth 100000 in
set_option maxHeartbeats 4000000 in
theorem rAt_there_b (c : CfgD) (h : c.Bd) (n : Nat) (hn : n < 17) (hc : 1 ≤ n ∧ n ≤ 6) (i k : Int) (g0 : 0 ≤ i) (g1 : i < c.things n) (g2 : 0 ≤ k) (g3 : k < c.places n) (ha : c.apart n = c.str) (w : World) :
    Calls Try.prog 59 #[cfgV c, .int .i64 (n : Int), .int .i64 i, .int .i64 k] w fun e w' => e = .returned (.int .i64 (c.beg n + i * (c.str) + k)) ∧ Kept (fun _ => False) w w' := by
  have HH := Lib.hid h
  obtain ⟨a1, a2, a3, a4, a5, a6, a7⟩ := CfgD.shape_bd h n hn
  rw [ha] at a4 a5
  have m0 : 0 ≤ i * (c.str) := Int.mul_nonneg g0 (by omega)
  have m1 : i * (c.str) ≤ 520 * 2106 := Int.mul_le_mul (by omega) a5 (by omega) (by omega)
  clear h ha
  obtain ⟨c1, c2⟩ := hc
  unfold cfgV
  have HC : Hid (Blk (w.alloc (.cells #[.int .i64 c.t, .int .i64 c.b, .int .i64 c.wr, .int .i64 c.f, .int .u64 c.first, .int .u64 c.last] 24)) w.heap.size 24 #[.int .i64 c.t, .int .i64 c.b, .int .i64 c.wr, .int .i64 c.f, .int .u64 c.first, .int .u64 c.last]) := Lib.hid (Blk.new _ _ _)
  have HK : Hid (Kept (fun _ => False) w (w.alloc (.cells #[.int .i64 c.t, .int .i64 c.b, .int .i64 c.wr, .int .i64 c.f, .int .u64 c.first, .int .u64 c.last] 24))) := Lib.hid ((Kept.refl _ w).alloc _)
  have k0 : (w.alloc (.cells #[.int .i64 c.t, .int .i64 c.b, .int .i64 c.wr, .int .i64 c.f, .int .u64 c.first, .int .u64 c.last] 24)).cell? ⟨w.heap.size, 0, none⟩ = some (.int .i64 c.t) := HC.out.cell 0
  have k1 : (w.alloc (.cells #[.int .i64 c.t, .int .i64 c.b, .int .i64 c.wr, .int .i64 c.f, .int .u64 c.first, .int .u64 c.last] 24)).cell? ⟨w.heap.size, 1, none⟩ = some (.int .i64 c.b) := HC.out.cell 1
  have k2 : (w.alloc (.cells #[.int .i64 c.t, .int .i64 c.b, .int .i64 c.wr, .int .i64 c.f, .int .u64 c.first, .int .u64 c.last] 24)).cell? ⟨w.heap.size, 2, none⟩ = some (.int .i64 c.wr) := HC.out.cell 2
  have k3 : (w.alloc (.cells #[.int .i64 c.t, .int .i64 c.b, .int .i64 c.wr, .int .i64 c.f, .int .u64 c.first, .int .u64 c.last] 24)).cell? ⟨w.heap.size, 3, none⟩ = some (.int .i64 c.f) := HC.out.cell 3
  have k4 : (w.alloc (.cells #[.int .i64 c.t, .int .i64 c.b, .int .i64 c.wr, .int .i64 c.f, .int .u64 c.first, .int .u64 c.last] 24)).cell? ⟨w.heap.size, 4, none⟩ = some (.int .u64 c.first) := HC.out.cell 4
  have k5 : (w.alloc (.cells #[.int .i64 c.t, .int .i64 c.b, .int .i64 c.wr, .int .i64 c.f, .int .u64 c.first, .int .u64 c.last] 24)).cell? ⟨w.heap.size, 5, none⟩ = some (.int .u64 c.last) := HC.out.cell 5
  go_enter Try.func59, Try.ntmps59
  go_wp2_with (first | (go_at_call 84; (refine (count_calls c HH.out n hn _).mono ?_); rintro e wx ⟨rfl, hk⟩; replace HC := Lib.hid (hk.blk HC.out (fun h => h)); replace k0 : wx.cell? ⟨w.heap.size, 0, none⟩ = some (.int .i64 c.t) := HC.out.cell 0; replace k1 : wx.cell? ⟨w.heap.size, 1, none⟩ = some (.int .i64 c.b) := HC.out.cell 1; replace k2 : wx.cell? ⟨w.heap.size, 2, none⟩ = some (.int .i64 c.wr) := HC.out.cell 2; replace k3 : wx.cell? ⟨w.heap.size, 3, none⟩ = some (.int .i64 c.f) := HC.out.cell 3; replace k4 : wx.cell? ⟨w.heap.size, 4, none⟩ = some (.int .u64 c.first) := HC.out.cell 4; replace k5 : wx.cell? ⟨w.heap.size, 5, none⟩ = some (.int .u64 c.last) := HC.out.cell 5; replace HK := Lib.hid (HK.out.trans hk); clear hk) | (go_at_call 85; (refine (each_calls c HH.out n hn _).mono ?_); rintro e wx ⟨rfl, hk⟩; replace HC := Lib.hid (hk.blk HC.out (fun h => h)); replace k0 : wx.cell? ⟨w.heap.size, 0, none⟩ = some (.int .i64 c.t) := HC.out.cell 0; replace k1 : wx.cell? ⟨w.heap.size, 1, none⟩ = some (.int .i64 c.b) := HC.out.cell 1; replace k2 : wx.cell? ⟨w.heap.size, 2, none⟩ = some (.int .i64 c.wr) := HC.out.cell 2; replace k3 : wx.cell? ⟨w.heap.size, 3, none⟩ = some (.int .i64 c.f) := HC.out.cell 3; replace k4 : wx.cell? ⟨w.heap.size, 4, none⟩ = some (.int .u64 c.first) := HC.out.cell 4; replace k5 : wx.cell? ⟨w.heap.size, 5, none⟩ = some (.int .u64 c.last) := HC.out.cell 5; replace HK := Lib.hid (HK.out.trans hk); clear hk) | (go_at_call 86; (refine (rStride c HH.out _).mono ?_); rintro e wx ⟨rfl, hk⟩; replace HC := Lib.hid (hk.blk HC.out (fun h => h)); replace k0 : wx.cell? ⟨w.heap.size, 0, none⟩ = some (.int .i64 c.t) := HC.out.cell 0; replace k1 : wx.cell? ⟨w.heap.size, 1, none⟩ = some (.int .i64 c.b) := HC.out.cell 1; replace k2 : wx.cell? ⟨w.heap.size, 2, none⟩ = some (.int .i64 c.wr) := HC.out.cell 2; replace k3 : wx.cell? ⟨w.heap.size, 3, none⟩ = some (.int .i64 c.f) := HC.out.cell 3; replace k4 : wx.cell? ⟨w.heap.size, 4, none⟩ = some (.int .u64 c.first) := HC.out.cell 4; replace k5 : wx.cell? ⟨w.heap.size, 5, none⟩ = some (.int .u64 c.last) := HC.out.cell 5; replace HK := Lib.hid (HK.out.trans hk); clear hk) | (go_at_call 87; (refine (from_calls c HH.out n hn _).mono ?_); rintro e wx ⟨rfl, hk⟩; replace HC := Lib.hid (hk.blk HC.out (fun h => h)); replace k0 : wx.cell? ⟨w.heap.size, 0, none⟩ = some (.int .i64 c.t) := HC.out.cell 0; replace k1 : wx.cell? ⟨w.heap.size, 1, none⟩ = some (.int .i64 c.b) := HC.out.cell 1; replace k2 : wx.cell? ⟨w.heap.size, 2, none⟩ = some (.int .i64 c.wr) := HC.out.cell 2; replace k3 : wx.cell? ⟨w.heap.size, 3, none⟩ = some (.int .i64 c.f) := HC.out.cell 3; replace k4 : wx.cell? ⟨w.heap.size, 4, none⟩ = some (.int .u64 c.first) := HC.out.cell 4; replace k5 : wx.cell? ⟨w.heap.size, 5, none⟩ = some (.int .u64 c.last) := HC.out.cell 5; replace HK := Lib.hid (HK.out.trans hk); clear hk))
  go_ret
  exact ⟨rfl, HK.out⟩

set_option maxRecDepth 100000 in
set_option maxHeartbeats 4000000 in
theorem rAt_there_d (c : CfgD) (h : c.Bd) (n : Nat) (hn : n < 17) (hc : 7 ≤ n ∧ n ≤ 9) (i k : Int) (g0 : 0 ≤ i) (g1 : i < c.things n) (g2 : 0 ≤ k) (g3 : k < c.places n) (ha : c.apart n = 3) (w : World) :
    Calls Try.prog 59 #[cfgV c, .int .i64 (n : Int), .int .i64 i, .int .i64 k] w fun e w' => e = .returned (.int .i64 (c.beg n + i * (3) + k)) ∧ Kept (fun _ => False) w w' := by
  have HH := Lib.hid h
  obtain ⟨a1, a2, a3, a4, a5, a6, a7⟩ := CfgD.shape_bd h n hn
  rw [ha] at a4 a5
  have m0 : 0 ≤ i * (3) := Int.mul_nonneg g0 (by omega)
  have m1 : i * (3) ≤ 520 * 2106 := Int.mul_le_mul (by omega) a5 (by omega) (by omega)
  clear h ha
  obtain ⟨c1, c2⟩ := hc
  unfold cfgV
  have HC : Hid (Blk (w.alloc (.cells #[.int .i64 c.t, .int .i64 c.b, .int .i64 c.wr, .int .i64 c.f, .int .u64 c.first, .int .u64 c.last] 24)) w.heap.size 24 #[.int .i64 c.t, .int .i64 c.b, .int .i64 c.wr, .int .i64 c.f, .int .u64 c.first, .int .u64 c.last]) := Lib.hid (Blk.new _ _ _)
  have HK : Hid (Kept (fun _ => False) w (w.alloc (.cells #[.int .i64 c.t, .int .i64 c.b, .int .i64 c.wr, .int .i64 c.f, .int .u64 c.first, .int .u64 c.last] 24))) := Lib.hid ((Kept.refl _ w).alloc _)
  have k0 : (w.alloc (.cells #[.int .i64 c.t, .int .i64 c.b, .int .i64 c.wr, .int .i64 c.f, .int .u64 c.first, .int .u64 c.last] 24)).cell? ⟨w.heap.size, 0, none⟩ = some (.int .i64 c.t) := HC.out.cell 0
  have k1 : (w.alloc (.cells #[.int .i64 c.t, .int .i64 c.b, .int .i64 c.wr, .int .i64 c.f, .int .u64 c.first, .int .u64 c.last] 24)).cell? ⟨w.heap.size, 1, none⟩ = some (.int .i64 c.b) := HC.out.cell 1
  have k2 : (w.alloc (.cells #[.int .i64 c.t, .int .i64 c.b, .int .i64 c.wr, .int .i64 c.f, .int .u64 c.first, .int .u64 c.last] 24)).cell? ⟨w.heap.size, 2, none⟩ = some (.int .i64 c.wr) := HC.out.cell 2
  have k3 : (w.alloc (.cells #[.int .i64 c.t, .int .i64 c.b, .int .i64 c.wr, .int .i64 c.f, .int .u64 c.first, .int .u64 c.last] 24)).cell? ⟨w.heap.size, 3, none⟩ = some (.int .i64 c.f) := HC.out.cell 3
  have k4 : (w.alloc (.cells #[.int .i64 c.t, .int .i64 c.b, .int .i64 c.wr, .int .i64 c.f, .int .u64 c.first, .int .u64 c.last] 24)).cell? ⟨w.heap.size, 4, none⟩ = some (.int .u64 c.first) := HC.out.cell 4
  have k5 : (w.alloc (.cells #[.int .i64 c.t, .int .i64 c.b, .int .i64 c.wr, .int .i64 c.f, .int .u64 c.first, .int .u64 c.last] 24)).cell? ⟨w.heap.size, 5, none⟩ = some (.int .u64 c.last) := HC.out.cell 5
  go_enter Try.func59, Try.ntmps59
  go_wp2_with (first | (go_at_call 84; (refine (count_calls c HH.out n hn _).mono ?_); rintro e wx ⟨rfl, hk⟩; replace HC := Lib.hid (hk.blk HC.out (fun h => h)); replace k0 : wx.cell? ⟨w.heap.size, 0, none⟩ = some (.int .i64 c.t) := HC.out.cell 0; replace k1 : wx.cell? ⟨w.heap.size, 1, none⟩ = some (.int .i64 c.b) := HC.out.cell 1; replace k2 : wx.cell? ⟨w.heap.size, 2, none⟩ = some (.int .i64 c.wr) := HC.out.cell 2; replace k3 : wx.cell? ⟨w.heap.size, 3, none⟩ = some (.int .i64 c.f) := HC.out.cell 3; replace k4 : wx.cell? ⟨w.heap.size, 4, none⟩ = some (.int .u64 c.first) := HC.out.cell 4; replace k5 : wx.cell? ⟨w.heap.size, 5, none⟩ = some (.int .u64 c.last) := HC.out.cell 5; replace HK := Lib.hid (HK.out.trans hk); clear hk) | (go_at_call 85; (refine (each_calls c HH.out n hn _).mono ?_); rintro e wx ⟨rfl, hk⟩; replace HC := Lib.hid (hk.blk HC.out (fun h => h)); replace k0 : wx.cell? ⟨w.heap.size, 0, none⟩ = some (.int .i64 c.t) := HC.out.cell 0; replace k1 : wx.cell? ⟨w.heap.size, 1, none⟩ = some (.int .i64 c.b) := HC.out.cell 1; replace k2 : wx.cell? ⟨w.heap.size, 2, none⟩ = some (.int .i64 c.wr) := HC.out.cell 2; replace k3 : wx.cell? ⟨w.heap.size, 3, none⟩ = some (.int .i64 c.f) := HC.out.cell 3; replace k4 : wx.cell? ⟨w.heap.size, 4, none⟩ = some (.int .u64 c.first) := HC.out.cell 4; replace k5 : wx.cell? ⟨w.heap.size, 5, none⟩ = some (.int .u64 c.last) := HC.out.cell 5; replace HK := Lib.hid (HK.out.trans hk); clear hk) | (go_at_call 86; (refine (rStride c HH.out _).mono ?_); rintro e wx ⟨rfl, hk⟩; replace HC := Lib.hid (hk.blk HC.out (fun h => h)); replace k0 : wx.cell? ⟨w.heap.size, 0, none⟩ = some (.int .i64 c.t) := HC.out.cell 0; replace k1 : wx.cell? ⟨w.heap.size, 1, none⟩ = some (.int .i64 c.b) := HC.out.cell 1; replace k2 : wx.cell? ⟨w.heap.size, 2, none⟩ = some (.int .i64 c.wr) := HC.out.cell 2; replace k3 : wx.cell? ⟨w.heap.size, 3, none⟩ = some (.int .i64 c.f) := HC.out.cell 3; replace k4 : wx.cell? ⟨w.heap.size, 4, none⟩ = some (.int .u64 c.first) := HC.out.cell 4; replace k5 : wx.cell? ⟨w.heap.size, 5, none⟩ = some (.int .u64 c.last) := HC.out.cell 5; replace HK := Lib.hid (HK.out.trans hk); clear hk) | (go_at_call 87; (refine (from_calls c HH.out n hn _).mono ?_); rintro e wx ⟨rfl, hk⟩; replace HC := Lib.hid (hk.blk HC.out (fun h => h)); replace k0 : wx.cell? ⟨w.heap.size, 0, none⟩ = some (.int .i64 c.t) := HC.out.cell 0; replace k1 : wx.cell? ⟨w.heap.size, 1, none⟩ = some (.int .i64 c.b) := HC.out.cell 1; replace k2 : wx.cell? ⟨w.heap.size, 2, none⟩ = some (.int .i64 c.wr) := HC.out.cell 2; replace k3 : wx.cell? ⟨w.heap.size, 3, none⟩ = some (.int .i64 c.f) := HC.out.cell 3; replace k4 : wx.cell? ⟨w.heap.size, 4, none⟩ = some (.int .u64 c.first) := HC.out.cell 4; replace k5 : wx.cell? ⟨w.heap.size, 5, none⟩ = some (.int .u64 c.last) := HC.out.cell 5; replace HK := Lib.hid (HK.out.trans hk); clear hk))
  go_ret
  exact ⟨rfl, HK.out⟩

set_option maxRecDepth 100000 in
set_option maxHeartbeats 4000000 in
theorem rAt_there_e (c : CfgD) (h : c.Bd) (n : Nat) (hn : n < 17) (hc : 10 ≤ n) (i k : Int) (g0 : 0 ≤ i) (g1 : i < c.things n) (g2 : 0 ≤ k) (g3 : k < c.places n) (ha : c.apart n = c.places n) (w : World) :
    Calls Try.prog 59 #[cfgV c, .int .i64 (n : Int), .int .i64 i, .int .i64 k] w fun e w' => e = .returned (.int .i64 (c.beg n + i * (c.places n) + k)) ∧ Kept (fun _ => False) w w' := by
  have HH := Lib.hid h
  obtain ⟨a1, a2, a3, a4, a5, a6, a7⟩ := CfgD.shape_bd h n hn
  rw [ha] at a4 a5
  have m0 : 0 ≤ i * (c.places n) := Int.mul_nonneg g0 (by omega)
  have m1 : i * (c.places n) ≤ 520 * 2106 := Int.mul_le_mul (by omega) a5 (by omega) (by omega)
  clear h ha
  have c1 := hc
  clear hc
  unfold cfgV
  have HC : Hid (Blk (w.alloc (.cells #[.int .i64 c.t, .int .i64 c.b, .int .i64 c.wr, .int .i64 c.f, .int .u64 c.first, .int .u64 c.last] 24)) w.heap.size 24 #[.int .i64 c.t, .int .i64 c.b, .int .i64 c.wr, .int .i64 c.f, .int .u64 c.first, .int .u64 c.last]) := Lib.hid (Blk.new _ _ _)
  have HK : Hid (Kept (fun _ => False) w (w.alloc (.cells #[.int .i64 c.t, .int .i64 c.b, .int .i64 c.wr, .int .i64 c.f, .int .u64 c.first, .int .u64 c.last] 24))) := Lib.hid ((Kept.refl _ w).alloc _)
  have k0 : (w.alloc (.cells #[.int .i64 c.t, .int .i64 c.b, .int .i64 c.wr, .int .i64 c.f, .int .u64 c.first, .int .u64 c.last] 24)).cell? ⟨w.heap.size, 0, none⟩ = some (.int .i64 c.t) := HC.out.cell 0
  have k1 : (w.alloc (.cells #[.int .i64 c.t, .int .i64 c.b, .int .i64 c.wr, .int .i64 c.f, .int .u64 c.first, .int .u64 c.last] 24)).cell? ⟨w.heap.size, 1, none⟩ = some (.int .i64 c.b) := HC.out.cell 1
  have k2 : (w.alloc (.cells #[.int .i64 c.t, .int .i64 c.b, .int .i64 c.wr, .int .i64 c.f, .int .u64 c.first, .int .u64 c.last] 24)).cell? ⟨w.heap.size, 2, none⟩ = some (.int .i64 c.wr) := HC.out.cell 2
  have k3 : (w.alloc (.cells #[.int .i64 c.t, .int .i64 c.b, .int .i64 c.wr, .int .i64 c.f, .int .u64 c.first, .int .u64 c.last] 24)).cell? ⟨w.heap.size, 3, none⟩ = some (.int .i64 c.f) := HC.out.cell 3
  have k4 : (w.alloc (.cells #[.int .i64 c.t, .int .i64 c.b, .int .i64 c.wr, .int .i64 c.f, .int .u64 c.first, .int .u64 c.last] 24)).cell? ⟨w.heap.size, 4, none⟩ = some (.int .u64 c.first) := HC.out.cell 4
  have k5 : (w.alloc (.cells #[.int .i64 c.t, .int .i64 c.b, .int .i64 c.wr, .int .i64 c.f, .int .u64 c.first, .int .u64 c.last] 24)).cell? ⟨w.heap.size, 5, none⟩ = some (.int .u64 c.last) := HC.out.cell 5
  go_enter Try.func59, Try.ntmps59
  go_wp2_with (first | (go_at_call 84; (refine (count_calls c HH.out n hn _).mono ?_); rintro e wx ⟨rfl, hk⟩; replace HC := Lib.hid (hk.blk HC.out (fun h => h)); replace k0 : wx.cell? ⟨w.heap.size, 0, none⟩ = some (.int .i64 c.t) := HC.out.cell 0; replace k1 : wx.cell? ⟨w.heap.size, 1, none⟩ = some (.int .i64 c.b) := HC.out.cell 1; replace k2 : wx.cell? ⟨w.heap.size, 2, none⟩ = some (.int .i64 c.wr) := HC.out.cell 2; replace k3 : wx.cell? ⟨w.heap.size, 3, none⟩ = some (.int .i64 c.f) := HC.out.cell 3; replace k4 : wx.cell? ⟨w.heap.size, 4, none⟩ = some (.int .u64 c.first) := HC.out.cell 4; replace k5 : wx.cell? ⟨w.heap.size, 5, none⟩ = some (.int .u64 c.last) := HC.out.cell 5; replace HK := Lib.hid (HK.out.trans hk); clear hk) | (go_at_call 85; (refine (each_calls c HH.out n hn _).mono ?_); rintro e wx ⟨rfl, hk⟩; replace HC := Lib.hid (hk.blk HC.out (fun h => h)); replace k0 : wx.cell? ⟨w.heap.size, 0, none⟩ = some (.int .i64 c.t) := HC.out.cell 0; replace k1 : wx.cell? ⟨w.heap.size, 1, none⟩ = some (.int .i64 c.b) := HC.out.cell 1; replace k2 : wx.cell? ⟨w.heap.size, 2, none⟩ = some (.int .i64 c.wr) := HC.out.cell 2; replace k3 : wx.cell? ⟨w.heap.size, 3, none⟩ = some (.int .i64 c.f) := HC.out.cell 3; replace k4 : wx.cell? ⟨w.heap.size, 4, none⟩ = some (.int .u64 c.first) := HC.out.cell 4; replace k5 : wx.cell? ⟨w.heap.size, 5, none⟩ = some (.int .u64 c.last) := HC.out.cell 5; replace HK := Lib.hid (HK.out.trans hk); clear hk) | (go_at_call 86; (refine (rStride c HH.out _).mono ?_); rintro e wx ⟨rfl, hk⟩; replace HC := Lib.hid (hk.blk HC.out (fun h => h)); replace k0 : wx.cell? ⟨w.heap.size, 0, none⟩ = some (.int .i64 c.t) := HC.out.cell 0; replace k1 : wx.cell? ⟨w.heap.size, 1, none⟩ = some (.int .i64 c.b) := HC.out.cell 1; replace k2 : wx.cell? ⟨w.heap.size, 2, none⟩ = some (.int .i64 c.wr) := HC.out.cell 2; replace k3 : wx.cell? ⟨w.heap.size, 3, none⟩ = some (.int .i64 c.f) := HC.out.cell 3; replace k4 : wx.cell? ⟨w.heap.size, 4, none⟩ = some (.int .u64 c.first) := HC.out.cell 4; replace k5 : wx.cell? ⟨w.heap.size, 5, none⟩ = some (.int .u64 c.last) := HC.out.cell 5; replace HK := Lib.hid (HK.out.trans hk); clear hk) | (go_at_call 87; (refine (from_calls c HH.out n hn _).mono ?_); rintro e wx ⟨rfl, hk⟩; replace HC := Lib.hid (hk.blk HC.out (fun h => h)); replace k0 : wx.cell? ⟨w.heap.size, 0, none⟩ = some (.int .i64 c.t) := HC.out.cell 0; replace k1 : wx.cell? ⟨w.heap.size, 1, none⟩ = some (.int .i64 c.b) := HC.out.cell 1; replace k2 : wx.cell? ⟨w.heap.size, 2, none⟩ = some (.int .i64 c.wr) := HC.out.cell 2; replace k3 : wx.cell? ⟨w.heap.size, 3, none⟩ = some (.int .i64 c.f) := HC.out.cell 3; replace k4 : wx.cell? ⟨w.heap.size, 4, none⟩ = some (.int .u64 c.first) := HC.out.cell 4; replace k5 : wx.cell? ⟨w.heap.size, 5, none⟩ = some (.int .u64 c.last) := HC.out.cell 5; replace HK := Lib.hid (HK.out.trans hk); clear hk))
  go_ret
  exact ⟨rfl, HK.out⟩

theorem rAt_calls (c : CfgD) (h : c.Bd) (kind i k : Int) (w : World) : Calls Try.prog 59 #[cfgV c, .int .i64 kind, .int .i64 i, .int .i64 k] w fun e w' => e = .returned (.int .i64 (c.at_ kind i k)) ∧ Kept (fun _ => False) w w' := by
  by_cases g : 0 ≤ kind ∧ kind < 17
  · obtain ⟨n, rfl⟩ := Int.eq_ofNat_of_zero_le g.1
    have hn : n < 17 := by omega
    by_cases hi : 0 ≤ i ∧ i < c.things n
    · by_cases hk : 0 ≤ k ∧ k < c.places n
      · have e : c.at_ n i k = c.beg n + i * c.apart n + k := CfgD.at_of_hit ⟨hn, hi.1, hi.2, hk.1, hk.2, rfl⟩
        rw [e]
        by_cases h0 : n = 0
        · have ha : c.apart n = c.places n := by subst h0; rfl
          rw [ha]
          exact rAt_there_a c h n hn h0 i k hi.1 hi.2 hk.1 hk.2 ha w
        by_cases h6 : n ≤ 6
        · have ha : c.apart n = c.str := by
            match n, hn with
            | 0, _ => omega
            | 1, _ | 2, _ | 3, _ | 4, _ | 5, _ | 6, _ => rfl
            | n + 7, _ => omega
          rw [ha]
          exact rAt_there_b c h n hn ⟨by omega, h6⟩ i k hi.1 hi.2 hk.1 hk.2 ha w
        by_cases h9 : n ≤ 9
        · have ha : c.apart n = 3 := by
            match n, hn with
            | 0, _ | 1, _ | 2, _ | 3, _ | 4, _ | 5, _ | 6, _ => omega
            | 7, _ | 8, _ | 9, _ => rfl
            | n + 10, _ => omega
          rw [ha]
          exact rAt_there_d c h n hn ⟨by omega, h9⟩ i k hi.1 hi.2 hk.1 hk.2 ha w
        · have ha : c.apart n = c.places n := by
            match n, hn with
            | 0, _ | 1, _ | 2, _ | 3, _ | 4, _ | 5, _ | 6, _ | 7, _ | 8, _ | 9, _ => omega
            | 10, _ | 11, _ | 12, _ | 13, _ | 14, _ | 15, _ | 16, _ => rfl
            | n + 17, _ => omega
          rw [ha]
          exact rAt_there_e c h n hn (by omega) i k hi.1 hi.2 hk.1 hk.2 ha w
      · have e : c.at_ n i k = -1 := by unfold CfgD.at_; rw [if_neg (by rw [Int.toNat_natCast]; omega)]
        rw [e]
        by_cases g2 : k < 0
        · exact rAt_k0 c h n hn i k hi.1 hi.2 g2 w
        · exact rAt_k1 c h n hn i k hi.1 hi.2 (by omega) (by omega) w
    · have e : c.at_ n i k = -1 := by unfold CfgD.at_; rw [if_neg (by rw [Int.toNat_natCast]; omega)]
      rw [e]
      by_cases g1 : i < 0
      · exact rAt_i0 c n hn i k g1 w
      · exact rAt_i1 c h n hn i k (by omega) (by omega) w
  · have e : c.at_ kind i k = -1 := by unfold CfgD.at_; rw [if_neg (by omega)]
    rw [e]
    exact rAt_kind c kind i k (by omega) w

end Go.Proofs.Ythjkodjpopcjaaa
