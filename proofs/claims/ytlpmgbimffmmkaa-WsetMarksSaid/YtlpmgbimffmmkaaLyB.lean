/- Layer 7 (lay): walks: Boot. -/
import Derived.Test.YtlpmgbimffmmkaaLyU
import Derived.Test.YtlpmgbimffmmkaaLyC
namespace Go.Proofs.Ytlpmgbimffmmkaa
open Go.RowKit
attribute [local go_sem ↓] loadMap_eq

/-- The cells with which all begins, behind k cells of the stack. -/
def bootK (c : CfgD) : Nat → List (Int × Int)
  | 0 => ((List.replicate c.size.toNat (0, 0)).set 0 (0, c.first)).set c.top.toNat (c.b, 0)
  | k + 1 => (bootK c k).set (c.stack.toNat + k) (c.b - 1 - k, 0)
def bootL (c : CfgD) : List (Int × Int) := bootK c c.b.toNat
theorem bootK_len (c : CfgD) : ∀ k, (bootK c k).length = c.size.toNat := by
  intro k
  induction k with
  | zero => simp [bootK]
  | succ k ih => simp [bootK, ih]
def BootR (c : CfgD) (w : World) (e : Ending) (w' : World) : Prop := ∃ b g, e = .returned (.pointer (some ⟨b, 0, none⟩)) ∧ MemL w' b g (bootL c) ∧ Kept (fun _ => False) w w'
theorem Kept.fresh {a b w : World} {g : Nat} (h : Kept (fun _ => False) a b) (h' : Kept (fun x => x = g) b w) (hg : a.heap.size ≤ g) : Kept (fun _ => False) a w :=
  ⟨h'.os.trans h.os, h'.tape.trans h.tape, h'.output.trans h.output, Nat.le_trans h.size h'.size, fun k hk hn => (h'.block k (Nat.lt_of_lt_of_le hk h.size) (by omega)).trans (h.block k hk hn)⟩
theorem size_bd {c : CfgD} (h : c.Bd) : 0 ≤ c.size ∧ c.size ≤ 20000 ∧ 0 ≤ c.top ∧ c.top < c.stack ∧ 1 ≤ c.stack ∧ c.stack + c.b ≤ c.size ∧ c.at_ 0 0 0 = 0 ∧ c.at_ 12 0 0 = c.top ∧ ∀ i, 0 ≤ i → i < c.b → c.at_ 13 i 0 = c.stack + i := by
  have h' := h
  obtain ⟨t1, t8, b1, b64, w0, w64, l0, l1, w3, w5, s0, s1⟩ := h'
  have hA : c.ans = 1 + c.ts := rfl
  have hR : c.root = c.ans + c.t * 3 := rfl
  have hL : c.life = c.root + 16 := rfl
  have hT : c.top = c.life + c.b := rfl
  have hSt : c.stack = c.top + 1 := rfl
  have hLp : c.limp = c.stack + c.b := rfl
  have hLb : c.limbo = c.limp + 1 := rfl
  have hW : c.word = c.limbo + c.lim := rfl
  have hZ : c.size = c.word + c.b * 8 := rfl
  refine ⟨by omega, by omega, by omega, by omega, by omega, by omega, ?_, ?_, fun i i0 i1 => ?_⟩
  · have := CfgD.at_of_hit (c := c) (p := 0) (k := 0) (i := 0) (j := 0) ⟨by omega, by omega, by simp [CfgD.things], by omega, by simp [CfgD.places], by simp [CfgD.beg, CfgD.apart]⟩
    simpa using this
  · have := CfgD.at_of_hit (c := c) (p := c.top) (k := 12) (i := 0) (j := 0) ⟨by omega, by omega, by simp [CfgD.things], by omega, by simp [CfgD.places], by simp [CfgD.beg, CfgD.apart]⟩
    simpa using this
  · have := CfgD.at_of_hit (c := c) (p := c.stack + i) (k := 13) (i := i) (j := 0) ⟨by omega, i0, by simpa [CfgD.things] using i1, by omega, by simp [CfgD.places], by simp [CfgD.beg, CfgD.apart]⟩
    simpa using this

set_option maxRecDepth 100000 in
set_option maxHeartbeats 4000000 in
theorem boot_calls (c : CfgD) (h : c.Bd) (w : World) : Calls Try.prog 29 #[mapV c] w (BootR c w) := by
  have HH := Lib.hid h
  obtain ⟨z0, z1, t0, t1, st1, zb, a0, a12, a13⟩ := size_bd h
  obtain ⟨n, hn⟩ := Int.eq_ofNat_of_zero_le z0
  obtain ⟨tn, htn⟩ := Int.eq_ofNat_of_zero_le t0
  obtain ⟨sn, hsn⟩ := Int.eq_ofNat_of_zero_le (show 0 ≤ c.stack by omega)
  have b1 := h.b1
  have b64 := h.b64
  have HA0 : Hid (c.at_ 0 0 0 = ((0 : Nat) : Int)) := Lib.hid a0
  have HA12 : Hid (c.at_ 12 0 0 = (tn : Int)) := Lib.hid (a12.trans htn)
  have HA13 := Lib.hid a13
  have HZ := Lib.hid hn
  have HSn := Lib.hid hsn
  have HTn := Lib.hid htn
  have HB0 : Hid (bootK c 0 = ((List.replicate n (0, 0)).set 0 (0, c.first)).set tn (c.b, 0)) := Lib.hid (by simp only [bootK]; rw [hn, htn, Int.toNat_natCast, Int.toNat_natCast])
  have n1 : (n : Int) ≤ 20000 := by omega
  have n2 : (tn : Int) < n := by omega
  have n3 : (sn : Int) + c.b ≤ n := by omega
  clear h z0 z1 t0 t1 st1 zb a0 a12 a13 hn htn hsn
  rw [mapV_eq]
  unfold mapX mapXA
  have hl : (loadMap ⟨w.heap.size, 0, none⟩).run Try.prog (w.alloc (.cells #[.int .i64 c.t, .int .i64 c.b, .int .i64 c.wr, .int .i64 c.f, .int .u64 c.first, .int .u64 c.last, begX c 0, begX c 1, begX c 2, begX c 3, begX c 4, begX c 5, begX c 6, begX c 7, begX c 8, begX c 9, begX c 10, begX c 11, begX c 12, begX c 13, begX c 14, begX c 15, begX c 16] 28)) = .ok (.agg #[.int .i64 c.t, .int .i64 c.b, .int .i64 c.wr, .int .i64 c.f, .int .u64 c.first, .int .u64 c.last, begX c 0, begX c 1, begX c 2, begX c 3, begX c 4, begX c 5, begX c 6, begX c 7, begX c 8, begX c 9, begX c 10, begX c 11, begX c 12, begX c 13, begX c 14, begX c 15, begX c 16]) (w.alloc (.cells #[.int .i64 c.t, .int .i64 c.b, .int .i64 c.wr, .int .i64 c.f, .int .u64 c.first, .int .u64 c.last, begX c 0, begX c 1, begX c 2, begX c 3, begX c 4, begX c 5, begX c 6, begX c 7, begX c 8, begX c 9, begX c 10, begX c 11, begX c 12, begX c 13, begX c 14, begX c 15, begX c 16] 28)) := loadMap_blk (x := begX c) (Blk.new _ _ _)
  go_enter Try.func29, Try.ntmps29
  go_wp2_with (first
    | (go_at_call 23; refine (size_calls c HH.out _).mono ?_; rintro e w1 ⟨rfl, hb1⟩; rw [HZ.out]; have HKs := Lib.hid (((Kept.refl (fun _ => False) w).alloc (.cells #[.int .i64 c.t, .int .i64 c.b, .int .i64 c.wr, .int .i64 c.f, .int .u64 c.first, .int .u64 c.last, begX c 0, begX c 1, begX c 2, begX c 3, begX c 4, begX c 5, begX c 6, begX c 7, begX c 8, begX c 9, begX c 10, begX c 11, begX c 12, begX c 13, begX c 14, begX c 15, begX c 16] 28)).trans (keptBelow hb1)); have HBs : Hid (Blk w1 w.heap.size 28 (mapA c)) := Lib.hid ((Blk.new _ _ _).below hb1 (by simp)); clear hb1)
    | (go_at_call 56; refine (new_yes n (by omega) _).mono ?_; rintro e wn ⟨rfl, hM, hk⟩; have HMp := Lib.hid hM; have HK0 := Lib.hid (HKs.out.trans hk); have HBp := Lib.hid (hk.blk HBs.out (fun h => h)); clear hM hk))
  go_region_held3 (fun w' => (loadMap ⟨w.heap.size, 0, none⟩).run Try.prog w' = .ok (.agg (mapA c)) w' ∧ w'.cell? ⟨w.heap.size, 4, none⟩ = some (.int .u64 c.first))
    (first | assumption | exact ⟨loadMap_arr hS2p rfl, hS2p.cell 4⟩ | exact ⟨loadMap_arr hSSp rfl, hSSp.cell 4⟩ | exact ⟨loadMap_arr HBp.out.drew rfl, HBp.out.drew.cell 4⟩ | (go_keep; done) | (simp [*, go_sem]; done))
    (first | (go_at_call 25; refine (at_calls c HH.out _ _ _ _).mono ?_; rintro e w1p ⟨rfl, hk1⟩; rw [HA0.out]; have hSSp : Blk w1p w.heap.size 28 (mapA c) := hk1.blk HBp.out.drew (fun h => h); have HM1p := Lib.hid ((HMp.out.kept ((Kept.refl _ _).drew)).kept hk1); have HK1p := Lib.hid (((Kept.refl (fun _ => False) _).drew).trans hk1); clear hk1) | (go_at_call 57; refine (set_yes HM1p.out 0 (0, c.first) (by simp; omega)).mono ?_; rintro e w2p ⟨rfl, hM2, hk2⟩; have hS2p : Blk w2p w.heap.size 28 (mapA c) := hk2.blk hSSp (HM1p.out.far hSSp (by decide)); have HM2p := Lib.hid hM2; have HK2p := Lib.hid hk2; clear hM2 hk2))
  have HBq := Lib.hid hS2p
  have HKq : Hid (Kept (fun _ => False) w w2p) := Lib.hid (Kept.fresh (HK0.out.trans HK1p.out) HK2p.out HKs.out.size)
  have HMq := HM2p
  clear hSSp hS2p HM2p HM1p HK1p HK2p
  have u1 : IntKind.u64.wrap c.b = c.b := IntWalk.u64_in _ (by omega)
  go_wp2_with fail
  go_region_held3 (fun w' => (loadMap ⟨w.heap.size, 0, none⟩).run Try.prog w' = .ok (.agg (mapA c)) w' ∧ w'.cell? ⟨w.heap.size, 1, none⟩ = some (.int .i64 c.b))
    (first | assumption | exact ⟨loadMap_arr hS2q rfl, hS2q.cell 1⟩ | exact ⟨loadMap_arr hSSq rfl, hSSq.cell 1⟩ | exact ⟨loadMap_arr HBq.out.drew rfl, HBq.out.drew.cell 1⟩ | (go_keep; done) | (simp [*, go_sem]; done))
    (first | (go_at_call 25; refine (at_calls c HH.out _ _ _ _).mono ?_; rintro e w1q ⟨rfl, hk1⟩; rw [HA12.out]; have hSSq : Blk w1q w.heap.size 28 (mapA c) := hk1.blk HBq.out.drew (fun h => h); have HM1q := Lib.hid ((HMq.out.kept ((Kept.refl _ _).drew)).kept hk1); have HK1q := Lib.hid (((Kept.refl (fun _ => False) _).drew).trans hk1); clear hk1) | (go_at_call 57; refine (set_yes HM1q.out tn (c.b, 0) (by simp; omega)).mono ?_; rintro e w2q ⟨rfl, hM2, hk2⟩; have hS2q : Blk w2q w.heap.size 28 (mapA c) := hk2.blk hSSq (HM1q.out.far hSSq (by decide)); have HM2q := Lib.hid hM2; have HK2q := Lib.hid hk2; clear hM2 hk2))
  have HBr := Lib.hid hS2q
  have HKr : Hid (Kept (fun _ => False) w w2q) := Lib.hid (Kept.fresh (HKq.out.trans HK1q.out) HK2q.out HKs.out.size)
  have HMr : Hid (MemL w2q (w1.heap.size + 1) w1.heap.size (bootK c 0)) := Lib.hid (by rw [HB0.out]; exact HM2q.out)
  have c1 : w2q.cell? ⟨w.heap.size, 1, none⟩ = some (.int .i64 c.b) := hS2q.cell 1
  clear hSSq hS2q HM2q HM1q HK1q HK2q
  go_wp2_with fail
  clear c1
  go_loopw [32] (fun i wr => ∃ (k : Nat) (W : World), W = wr ∧ (k : Int) ≤ c.b ∧ i = .int .i64 k ∧ MemL W (w1.heap.size + 1) w1.heap.size (bootK c k) ∧ Blk W w.heap.size 28 (mapA c) ∧ Kept (fun _ => False) w W) (fun i _ => c.b.toNat - (intOf i).toNat)
  case atStart => exact ⟨0, _, rfl, by omega, rfl, HMr.out, HBr.out, HKr.out⟩
  case round =>
    obtain ⟨k, wr, rfl, hk, rfl, hM, hB, hK⟩ := hrel
    have HMs := Lib.hid hM
    have HBs' := Lib.hid hB
    have HKk := Lib.hid hK
    clear hM hB hK
    by_cases hlt : (k : Int) < c.b
    · have HA := Lib.hid (show c.at_ 13 k 0 = ((sn + k : Nat) : Int) by rw [HA13.out k (by omega) hlt, HSn.out]; omega)
      have HL := Lib.hid (show sn + k < (bootK c k).length by rw [bootK_len, HZ.out, Int.toNat_natCast]; omega)
      have HBk : Hid (bootK c (k + 1) = (bootK c k).set (sn + k) (c.b - 1 - k, 0)) := Lib.hid (by simp only [bootK]; rw [HSn.out, Int.toNat_natCast])
      have e1 : IntKind.i64.wrap (c.b - 1) = c.b - 1 := IntWalk.i64_in _ (by omega)
      have e2 : IntKind.i64.wrap (c.b - 1 - k) = c.b - 1 - k := IntWalk.i64_in _ (by omega)
      have e3 : IntKind.u64.wrap (c.b - 1 - k) = c.b - 1 - k := IntWalk.u64_in _ (by omega)
      have HBt := HBs'
      have HMt := HMs
      go_wp2_with fail
      go_region_held3 (fun w' => (loadMap ⟨w.heap.size, 0, none⟩).run Try.prog w' = .ok (.agg (mapA c)) w' ∧ w'.cell? ⟨w.heap.size, 1, none⟩ = some (.int .i64 c.b))
        (first | assumption | exact ⟨loadMap_arr hS2t rfl, hS2t.cell 1⟩ | exact ⟨loadMap_arr hSSt rfl, hSSt.cell 1⟩ | exact ⟨loadMap_arr HBt.out.drew rfl, HBt.out.drew.cell 1⟩ | (go_keep; done) | (simp [*, go_sem]; done))
        (first | (go_at_call 25; refine (at_calls c HH.out _ _ _ _).mono ?_; rintro e w1t ⟨rfl, hk1⟩; rw [HA.out]; have hSSt : Blk w1t w.heap.size 28 (mapA c) := hk1.blk HBt.out.drew (fun h => h); have HM1t := Lib.hid ((HMt.out.kept ((Kept.refl _ _).drew)).kept hk1); have HK1t := Lib.hid (((Kept.refl (fun _ => False) _).drew).trans hk1); clear hk1) | (go_at_call 57; refine (set_yes HM1t.out (sn + k) (c.b - 1 - k, 0) HL.out).mono ?_; rintro e w2t ⟨rfl, hM2, hk2⟩; have hS2t : Blk w2t w.heap.size 28 (mapA c) := hk2.blk hSSt (HM1t.out.far hSSt (by decide)); have HM2t := Lib.hid hM2; have HK2t := Lib.hid hk2; clear hM2 hk2))
      have HBu := Lib.hid hS2t
      have HKu : Hid (Kept (fun _ => False) w w2t) := Lib.hid (Kept.fresh (HKk.out.trans HK1t.out) HK2t.out HKs.out.size)
      have HMu : Hid (MemL w2t (w1.heap.size + 1) w1.heap.size (bootK c (k + 1))) := Lib.hid (by rw [HBk.out]; exact HM2t.out)
      clear hSSt hS2t HM2t HM1t HK1t HK2t e1 e2 e3
      go_wp2_with fail
      go_roundw
      case rel => exact ⟨k + 1, _, rfl, by omega, by go_num, HMu.out, HBu.out, HKu.out⟩
      case measure => simp [intOf]; omega
    · have HE := Lib.hid (show bootK c k = bootL c by unfold bootL; rw [show c.b.toNat = k by omega])
      go_wp2_with fail
      go_ret
      exact ⟨_, _, rfl, by rw [← HE.out]; exact HMs.out, HKk.out⟩
end Go.Proofs.Ytlpmgbimffmmkaa
