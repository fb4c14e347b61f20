/- Layer 7 (lay): the document's Boot. -/
import Derived.Test.YtlpmgbimffmmkaaLyRb
namespace Go.Proofs.Ytlpmgbimffmmkaa
open Go.RowKit

theorem RowC.kept {w w' : World} {g cap : Nat} {cs : List (Int × Int)} (h : RowC w g cap cs) (k : Kept (fun _ => False) w w') : RowC w' g cap cs := by
  obtain ⟨cur, hb, r⟩ := h
  exact ⟨cur, k.blk hb (fun h => h), r⟩
theorem RowC.val {w : World} {g cap : Nat} {cs : List (Int × Int)} (h : RowC w g cap cs) {i : Nat} {p1 p2 : Int} (hi : cs[i]? = some (p1, p2)) (v : Int) : RowC (w.setCell ⟨g, i * 2, none⟩ (.int .u64 v)) g cap (cs.set i (v, p2)) := by
  obtain ⟨cur, hb, hl, hm, hs, ht⟩ := h
  obtain ⟨_, hc1⟩ := RowC.at_ ht hi
  refine ⟨cur.setIfInBounds (i * 2) (.int .u64 v), hb.set_ _ _, by simpa using hl, hm, by simpa using hs, ?_⟩
  have := RowC.set_ ht (List.getElem?_eq_some_iff.1 hi).1 (v, p2)
  rw [set_same (v := .int .u64 p2) (by rw [Array.getElem?_setIfInBounds_ne (by omega)]; exact hc1)] at this
  exact this
theorem RowC.both {w : World} {g cap : Nat} {cs : List (Int × Int)} (h : RowC w g cap cs) {i : Nat} (hi : i < cs.length) (q : Int × Int) : RowC ((w.setCell ⟨g, i * 2, none⟩ (.int .u64 q.1)).setCell ⟨g, i * 2 + 1, none⟩ (.int .u64 q.2)) g cap (cs.set i q) := by
  obtain ⟨cur, hb, hl, hm, hs, ht⟩ := h
  exact ⟨_, (hb.set_ _ _).set_ _ _, by simpa using hl, hm, by simpa using hs, RowC.set_ ht hi q⟩
theorem RowC.cells {w : World} {g cap : Nat} {cs : List (Int × Int)} (h : RowC w g cap cs) {i : Nat} {p : Int × Int} (hi : cs[i]? = some p) :
    w.cell? ⟨g, i * 2, none⟩ = some (.int .u64 p.1) ∧ w.cell? ⟨g, i * 2 + 1, none⟩ = some (.int .u64 p.2) ∧ w.frozen? ⟨g, i * 2, none⟩ = false ∧ w.frozen? ⟨g, i * 2 + 1, none⟩ = false := by
  obtain ⟨cur, hb, hl, hm, hs, ht⟩ := h
  obtain ⟨h0, h1⟩ := RowC.at_ ht hi
  exact ⟨(hb.cell _).trans h0, (hb.cell _).trans h1, hb.frozen _, hb.frozen _⟩
theorem RowC.lt {w : World} {g cap : Nat} {cs : List (Int × Int)} (h : RowC w g cap cs) : g < w.heap.size := by
  obtain ⟨cur, hb, _⟩ := h
  exact hb.lt
theorem bootK_zero (c : CfgD) {n tn sn : Nat} (hn : c.size = n) (ht : c.top = tn) (hs : c.stack = sn) (h1 : 1 ≤ tn) (h2 : tn < sn) : ∀ k j, sn + k ≤ j → j < n → (bootK c k)[j]? = some (0, 0) := by
  intro k
  induction k with
  | zero =>
    intro j h3 h4
    simp only [bootK]
    rw [hn, ht, Int.toNat_natCast, Int.toNat_natCast, List.getElem?_set_ne (by omega), List.getElem?_set_ne (by omega), List.getElem?_replicate, if_pos h4]
  | succ k ih =>
    intro j h3 h4
    simp only [bootK]
    rw [hs, Int.toNat_natCast, List.getElem?_set_ne (by omega)]
    exact ih j (by omega) h4

/-- What the document's Boot comes to. -/
def RBootR (c : CfgD) (w : World) (e : Ending) (w' : World) : Prop := ∃ g, e = .returned (.slice (some ⟨g, 0, none⟩) (bootL c).length (bootL c).length) ∧ RowC w' g (bootL c).length (bootL c) ∧ Kept (fun _ => False) w w'

set_option maxRecDepth 100000 in
set_option maxHeartbeats 4000000 in
theorem rBoot_calls (c : CfgD) (h : c.Bd) (w : World) : Calls Try.prog 30 #[cfgV c] w (RBootR c w) := by
  have HH := Lib.hid h
  obtain ⟨z0, z1, t0, t1, st1, zb, a0, a12, a13⟩ := size_bd h
  obtain ⟨n, hn⟩ := Int.eq_ofNat_of_zero_le z0
  obtain ⟨tn, htn⟩ := Int.eq_ofNat_of_zero_le t0
  obtain ⟨sn, hsn⟩ := Int.eq_ofNat_of_zero_le (show 0 ≤ c.stack by omega)
  have b1 := h.b1
  have b64 := h.b64
  have hts : c.stack = c.top + 1 := rfl
  have ht1 : 1 ≤ tn := by
    have hA : c.ans = 1 + c.ts := rfl
    have hR : c.root = c.ans + c.t * 3 := rfl
    have hL : c.life = c.root + 16 := rfl
    have hT : c.top = c.life + c.b := rfl
    have := h.s0
    have := h.t1
    omega
  have HBZ := Lib.hid (bootK_zero c hn htn hsn ht1 (by omega))
  have HA12 : Hid (c.at_ 12 0 0 = (tn : Int)) := Lib.hid (a12.trans htn)
  have HA13 := Lib.hid a13
  have HZ := Lib.hid hn
  have HSn := Lib.hid hsn
  have HB0 : Hid (bootK c 0 = ((List.replicate n (0, 0)).set 0 (0, c.first)).set tn (c.b, 0)) := Lib.hid (by simp only [bootK]; rw [hn, htn, Int.toNat_natCast, Int.toNat_natCast])
  have n1 : (n : Int) ≤ 20000 := by omega
  have n2 : (tn : Int) < n := by omega
  have n3 : (sn : Int) + c.b ≤ n := by omega
  clear h z0 z1 t0 t1 st1 zb a0 a12 a13 hn htn hsn hts
  obtain ⟨i0, hi0, hz0, hz1, hz2⟩ := info_parts Try.infoCell
  have hmk : ∀ W : World, (Instr.makeSlice 48 (.int .i64 (n : Int)) (.int .i64 (n : Int))).run Try.prog W = .ok (.slice (some ⟨W.heap.size, 0, none⟩) n n) (W.alloc (.cells (madeCells (Value.agg #[.int .u64 0, .int .u64 0]).cells (n * 2)) 51)) := fun W => by
    have h := run_make (P := Try.prog) W 48 51 i0 _ Try.underlying48 hi0 hz0 .i64 .i64 (n : Int) (n : Int) (by omega) (by omega) (by rw [hz2]; omega) (by omega)
    simpa [hz1] using h
  clear hi0 hz0 hz1 hz2
  obtain ⟨Z, hZ⟩ : ∃ Z, Z = madeCells (Value.agg #[.int .u64 0, .int .u64 0]).cells (n * 2) := ⟨_, rfl⟩
  rw [← hZ] at hmk
  have HZZ : Hid (∀ W : World, RowC (W.alloc (.cells Z 51)) W.heap.size n (List.replicate n (0, 0))) := Lib.hid (fun W => ⟨Z, Blk.new _ _ _, by simp, by simp [maxLen]; omega, by rw [hZ]; simp [madeCells], by
    rw [hZ, ← madeCells_cells]
    apply List.take_of_length_le
    simp [madeCells]⟩)
  clear hZ
  unfold cfgV
  go_enter Try.func30, Try.ntmps30
  go_upto_region 2 with (first | (go_at_call 24; (refine (rSize c HH.out _).mono ?_); rintro e w1 ⟨rfl, hk⟩; rw [HZ.out]; have HC := Lib.hid (hk.blk (Blk.new w 24 #[.int .i64 c.t, .int .i64 c.b, .int .i64 c.wr, .int .i64 c.f, .int .u64 c.first, .int .u64 c.last]) (fun h => h)); have HK := Lib.hid (((Kept.refl (fun _ => False) w).alloc (.cells #[.int .i64 c.t, .int .i64 c.b, .int .i64 c.wr, .int .i64 c.f, .int .u64 c.first, .int .u64 c.last] 24)).trans hk); clear hk))
  obtain ⟨W1, hW1⟩ : ∃ W1, W1 = w1.alloc (.cells Z 51) := ⟨_, rfl⟩
  obtain ⟨g, hg⟩ : ∃ g, g = w1.heap.size := ⟨_, rfl⟩
  have HG : Hid (w.heap.size ≤ g) := Lib.hid (by rw [hg]; exact HK.out.size)
  have HR1 : Hid (RowC W1 g n (List.replicate n (0, 0))) := Lib.hid (by rw [hW1, hg]; exact HZZ.out w1)
  have HC1 : Hid (Blk W1 w.heap.size 24 #[.int .i64 c.t, .int .i64 c.b, .int .i64 c.wr, .int .i64 c.f, .int .u64 c.first, .int .u64 c.last]) := Lib.hid (by rw [hW1]; exact HC.out.alloc _)
  have HK1 : Hid (Kept (fun _ => False) w W1) := Lib.hid (by rw [hW1]; exact HK.out.alloc _)
  have HG2 : Hid (w.heap.size ≠ g) := Lib.hid (by have := HC.out.lt; omega)
  rw [← hW1, ← hg]
  clear hW1 hg hmk HZZ HC HK
  obtain ⟨x0, x1, y0, y1⟩ := HR1.out.cells (i := 0) (p := (0, 0)) (by rw [List.getElem?_replicate, if_pos (by omega)])
  have hlg : g < W1.heap.size := HR1.out.lt
  have k4 : W1.cell? ⟨w.heap.size, 4, none⟩ = some (.int .u64 c.first) := HC1.out.cell 4
  simp only [Nat.zero_mul, Nat.zero_add] at x0 x1 y0 y1
  go_wp2_with fail
  have HRa := HR1.out.both (i := 0) (by simp; omega) (0, c.first)
  simp only [Nat.zero_mul, Nat.zero_add] at HRa
  have hne : w.heap.size ≠ g := HG2.out
  have HCa' := (HC1.out.far (p := ⟨g, 0, none⟩) hne (.int .u64 0)).far (p := ⟨g, 1, none⟩) hne (.int .u64 c.first)
  have HKa' := (HK1.out.setCell (p := ⟨g, 0, none⟩) (.inr HG.out) (.int .u64 0)).setCell (p := ⟨g, 1, none⟩) (.inr HG.out) (.int .u64 c.first)
  generalize ((W1.setCell ⟨g, 0, none⟩ (.int .u64 0)).setCell ⟨g, 1, none⟩ (.int .u64 c.first)) = W2 at *
  have HCp := Lib.hid HCa'
  have HKp := Lib.hid HKa'
  have HRp := Lib.hid HRa
  have HLp : Hid (((List.replicate n ((0 : Int), (0 : Int))).set 0 (0, c.first))[tn]? = some (0, 0)) := Lib.hid (by rw [List.getElem?_set_ne (by omega), List.getElem?_replicate, if_pos (by omega)])
  clear HCa' HKa' HRa x0 x1 y0 y1 hlg k4
  have u1 : IntKind.u64.wrap c.b = c.b := IntWalk.u64_in _ (by omega)
  go_region_held3 (fun w' => w'.cell? ⟨w.heap.size, 0, none⟩ = some (.int .i64 c.t) ∧ w'.cell? ⟨w.heap.size, 1, none⟩ = some (.int .i64 c.b) ∧ w'.cell? ⟨w.heap.size, 2, none⟩ = some (.int .i64 c.wr) ∧ w'.cell? ⟨w.heap.size, 3, none⟩ = some (.int .i64 c.f) ∧ w'.cell? ⟨w.heap.size, 4, none⟩ = some (.int .u64 c.first) ∧ w'.cell? ⟨w.heap.size, 5, none⟩ = some (.int .u64 c.last))
    (first | assumption | exact ⟨hCp.cell 0, hCp.cell 1, hCp.cell 2, hCp.cell 3, hCp.cell 4, hCp.cell 5⟩ | exact ⟨(show Blk _ w.heap.size 24 #[.int .i64 c.t, .int .i64 c.b, .int .i64 c.wr, .int .i64 c.f, .int .u64 c.first, .int .u64 c.last] from HCp.out).cell 0, (show Blk _ w.heap.size 24 #[.int .i64 c.t, .int .i64 c.b, .int .i64 c.wr, .int .i64 c.f, .int .u64 c.first, .int .u64 c.last] from HCp.out).cell 1, (show Blk _ w.heap.size 24 #[.int .i64 c.t, .int .i64 c.b, .int .i64 c.wr, .int .i64 c.f, .int .u64 c.first, .int .u64 c.last] from HCp.out).cell 2, (show Blk _ w.heap.size 24 #[.int .i64 c.t, .int .i64 c.b, .int .i64 c.wr, .int .i64 c.f, .int .u64 c.first, .int .u64 c.last] from HCp.out).cell 3, (show Blk _ w.heap.size 24 #[.int .i64 c.t, .int .i64 c.b, .int .i64 c.wr, .int .i64 c.f, .int .u64 c.first, .int .u64 c.last] from HCp.out).cell 4, (show Blk _ w.heap.size 24 #[.int .i64 c.t, .int .i64 c.b, .int .i64 c.wr, .int .i64 c.f, .int .u64 c.first, .int .u64 c.last] from HCp.out).cell 5⟩ | exact ⟨(show Blk _ w.heap.size 24 #[.int .i64 c.t, .int .i64 c.b, .int .i64 c.wr, .int .i64 c.f, .int .u64 c.first, .int .u64 c.last] from Blk.far (p := ⟨g, tn * 2, none⟩) hCp hne _).cell 0, (show Blk _ w.heap.size 24 #[.int .i64 c.t, .int .i64 c.b, .int .i64 c.wr, .int .i64 c.f, .int .u64 c.first, .int .u64 c.last] from Blk.far (p := ⟨g, tn * 2, none⟩) hCp hne _).cell 1, (show Blk _ w.heap.size 24 #[.int .i64 c.t, .int .i64 c.b, .int .i64 c.wr, .int .i64 c.f, .int .u64 c.first, .int .u64 c.last] from Blk.far (p := ⟨g, tn * 2, none⟩) hCp hne _).cell 2, (show Blk _ w.heap.size 24 #[.int .i64 c.t, .int .i64 c.b, .int .i64 c.wr, .int .i64 c.f, .int .u64 c.first, .int .u64 c.last] from Blk.far (p := ⟨g, tn * 2, none⟩) hCp hne _).cell 3, (show Blk _ w.heap.size 24 #[.int .i64 c.t, .int .i64 c.b, .int .i64 c.wr, .int .i64 c.f, .int .u64 c.first, .int .u64 c.last] from Blk.far (p := ⟨g, tn * 2, none⟩) hCp hne _).cell 4, (show Blk _ w.heap.size 24 #[.int .i64 c.t, .int .i64 c.b, .int .i64 c.wr, .int .i64 c.f, .int .u64 c.first, .int .u64 c.last] from Blk.far (p := ⟨g, tn * 2, none⟩) hCp hne _).cell 5⟩ | (go_keep; done) | (simp [*, go_sem]; done))
    (first | (go_at_call 26; (refine (rAt_calls c HH.out _ _ _ _).mono ?_); rintro e wap ⟨rfl, hk⟩; rw [HA12.out]; have hCp : Blk wap w.heap.size 24 #[.int .i64 c.t, .int .i64 c.b, .int .i64 c.wr, .int .i64 c.f, .int .u64 c.first, .int .u64 c.last] := hk.blk (show Blk _ w.heap.size 24 #[.int .i64 c.t, .int .i64 c.b, .int .i64 c.wr, .int .i64 c.f, .int .u64 c.first, .int .u64 c.last] from HCp.out) (fun h => h); have HRRp : Hid (RowC wap g n ((List.replicate n (0, 0)).set 0 (0, c.first))) := Lib.hid (HRp.out.kept (((Kept.refl (fun _ => False) _).drew).trans hk)); have HKKp := Lib.hid (HKp.out.drew.trans hk); obtain ⟨x0, x1, y0, y1⟩ := HRRp.out.cells (i := tn) (p := (0, 0)) HLp.out; have hlg : g < wap.heap.size := HRRp.out.lt; clear hk))
  have HRb : RowC (wap.setCell ⟨g, tn * 2, none⟩ (.int .u64 c.b)) g n (bootK c 0) := by rw [HB0.out]; exact HRRp.out.val HLp.out c.b
  have HCb : Blk (wap.setCell ⟨g, tn * 2, none⟩ (.int .u64 c.b)) w.heap.size 24 #[.int .i64 c.t, .int .i64 c.b, .int .i64 c.wr, .int .i64 c.f, .int .u64 c.first, .int .u64 c.last] := Blk.far (p := ⟨g, tn * 2, none⟩) hCp hne _
  have HKb : Kept (fun _ => False) w (wap.setCell ⟨g, tn * 2, none⟩ (.int .u64 c.b)) := HKKp.out.setCell (p := ⟨g, tn * 2, none⟩) (.inr HG.out) (.int .u64 c.b)
  generalize (wap.setCell ⟨g, tn * 2, none⟩ (.int .u64 c.b)) = W3 at *
  have HR3 := Lib.hid HRb
  have HC3 := Lib.hid HCb
  have HK3 := Lib.hid HKb
  clear HRb HCb HKb x0 x1 y0 y1 hlg u1 hCp
  go_wp2_with fail
  go_loopw [4] (fun i wr => ∃ (k : Nat) (W : World), W = wr ∧ (k : Int) ≤ c.b ∧ i = .int .i64 k ∧ RowC W g n (bootK c k) ∧ Blk W w.heap.size 24 #[.int .i64 c.t, .int .i64 c.b, .int .i64 c.wr, .int .i64 c.f, .int .u64 c.first, .int .u64 c.last] ∧ Kept (fun _ => False) w W) (fun i _ => c.b.toNat - (intOf i).toNat)
  case atStart => exact ⟨0, _, rfl, by omega, rfl, HR3.out, HC3.out, HK3.out⟩
  case round =>
    obtain ⟨k, wr, rfl, hk, rfl, hR, hC, hK⟩ := hrel
    have HRs := Lib.hid hR
    have HCs := Lib.hid hC
    have HKs := Lib.hid hK
    have k1 : wr.cell? ⟨w.heap.size, 1, none⟩ = some (.int .i64 c.b) := hC.cell 1
    clear hR hC hK
    by_cases hlt : (k : Int) < c.b
    · obtain ⟨m, hm⟩ : ∃ m, m = sn + k := ⟨_, rfl⟩
      have HA := Lib.hid (show c.at_ 13 k 0 = (m : Int) by rw [HA13.out k (by omega) hlt, HSn.out]; omega)
      have HLs := Lib.hid (HBZ.out k m (by omega) (by omega))
      have hmn : (m : Int) < n := by omega
      have hm0 : (0 : Int) ≤ m := by omega
      have HBk : Hid (bootK c (k + 1) = (bootK c k).set m (c.b - 1 - k, 0)) := Lib.hid (by simp only [bootK]; rw [HSn.out, Int.toNat_natCast, ← hm])
      clear hm
      have e1 : IntKind.i64.wrap (c.b - 1) = c.b - 1 := IntWalk.i64_in _ (by omega)
      have e2 : IntKind.i64.wrap (c.b - 1 - k) = c.b - 1 - k := IntWalk.i64_in _ (by omega)
      have e3 : IntKind.u64.wrap (c.b - 1 - k) = c.b - 1 - k := IntWalk.u64_in _ (by omega)
      go_wp2_with fail
      go_region_held3 (fun w' => w'.cell? ⟨w.heap.size, 0, none⟩ = some (.int .i64 c.t) ∧ w'.cell? ⟨w.heap.size, 1, none⟩ = some (.int .i64 c.b) ∧ w'.cell? ⟨w.heap.size, 2, none⟩ = some (.int .i64 c.wr) ∧ w'.cell? ⟨w.heap.size, 3, none⟩ = some (.int .i64 c.f) ∧ w'.cell? ⟨w.heap.size, 4, none⟩ = some (.int .u64 c.first) ∧ w'.cell? ⟨w.heap.size, 5, none⟩ = some (.int .u64 c.last))
        (first | assumption | exact ⟨hCs.cell 0, hCs.cell 1, hCs.cell 2, hCs.cell 3, hCs.cell 4, hCs.cell 5⟩ | exact ⟨(show Blk _ w.heap.size 24 #[.int .i64 c.t, .int .i64 c.b, .int .i64 c.wr, .int .i64 c.f, .int .u64 c.first, .int .u64 c.last] from HCs.out).cell 0, (show Blk _ w.heap.size 24 #[.int .i64 c.t, .int .i64 c.b, .int .i64 c.wr, .int .i64 c.f, .int .u64 c.first, .int .u64 c.last] from HCs.out).cell 1, (show Blk _ w.heap.size 24 #[.int .i64 c.t, .int .i64 c.b, .int .i64 c.wr, .int .i64 c.f, .int .u64 c.first, .int .u64 c.last] from HCs.out).cell 2, (show Blk _ w.heap.size 24 #[.int .i64 c.t, .int .i64 c.b, .int .i64 c.wr, .int .i64 c.f, .int .u64 c.first, .int .u64 c.last] from HCs.out).cell 3, (show Blk _ w.heap.size 24 #[.int .i64 c.t, .int .i64 c.b, .int .i64 c.wr, .int .i64 c.f, .int .u64 c.first, .int .u64 c.last] from HCs.out).cell 4, (show Blk _ w.heap.size 24 #[.int .i64 c.t, .int .i64 c.b, .int .i64 c.wr, .int .i64 c.f, .int .u64 c.first, .int .u64 c.last] from HCs.out).cell 5⟩ | exact ⟨(show Blk _ w.heap.size 24 #[.int .i64 c.t, .int .i64 c.b, .int .i64 c.wr, .int .i64 c.f, .int .u64 c.first, .int .u64 c.last] from Blk.far (p := ⟨g, m * 2, none⟩) hCs hne _).cell 0, (show Blk _ w.heap.size 24 #[.int .i64 c.t, .int .i64 c.b, .int .i64 c.wr, .int .i64 c.f, .int .u64 c.first, .int .u64 c.last] from Blk.far (p := ⟨g, m * 2, none⟩) hCs hne _).cell 1, (show Blk _ w.heap.size 24 #[.int .i64 c.t, .int .i64 c.b, .int .i64 c.wr, .int .i64 c.f, .int .u64 c.first, .int .u64 c.last] from Blk.far (p := ⟨g, m * 2, none⟩) hCs hne _).cell 2, (show Blk _ w.heap.size 24 #[.int .i64 c.t, .int .i64 c.b, .int .i64 c.wr, .int .i64 c.f, .int .u64 c.first, .int .u64 c.last] from Blk.far (p := ⟨g, m * 2, none⟩) hCs hne _).cell 3, (show Blk _ w.heap.size 24 #[.int .i64 c.t, .int .i64 c.b, .int .i64 c.wr, .int .i64 c.f, .int .u64 c.first, .int .u64 c.last] from Blk.far (p := ⟨g, m * 2, none⟩) hCs hne _).cell 4, (show Blk _ w.heap.size 24 #[.int .i64 c.t, .int .i64 c.b, .int .i64 c.wr, .int .i64 c.f, .int .u64 c.first, .int .u64 c.last] from Blk.far (p := ⟨g, m * 2, none⟩) hCs hne _).cell 5⟩ | (go_keep; done) | (simp [*, go_sem]; done))
        (first | (go_at_call 26; (refine (rAt_calls c HH.out _ _ _ _).mono ?_); rintro e was ⟨rfl, hk⟩; rw [HA.out]; have hCs : Blk was w.heap.size 24 #[.int .i64 c.t, .int .i64 c.b, .int .i64 c.wr, .int .i64 c.f, .int .u64 c.first, .int .u64 c.last] := hk.blk (show Blk _ w.heap.size 24 #[.int .i64 c.t, .int .i64 c.b, .int .i64 c.wr, .int .i64 c.f, .int .u64 c.first, .int .u64 c.last] from HCs.out) (fun h => h); have HRRs : Hid (RowC was g n (bootK c k)) := Lib.hid (HRs.out.kept (((Kept.refl (fun _ => False) _).drew).trans hk)); have HKKs := Lib.hid (HKs.out.drew.trans hk); obtain ⟨x0, x1, y0, y1⟩ := HRRs.out.cells (i := m) (p := (0, 0)) HLs.out; have hlg : g < was.heap.size := HRRs.out.lt; clear hk))
      have HRb : RowC (was.setCell ⟨g, m * 2, none⟩ (.int .u64 (c.b - 1 - k))) g n (bootK c (k + 1)) := by rw [HBk.out]; exact HRRs.out.val HLs.out (c.b - 1 - k)
      have HCb : Blk (was.setCell ⟨g, m * 2, none⟩ (.int .u64 (c.b - 1 - k))) w.heap.size 24 #[.int .i64 c.t, .int .i64 c.b, .int .i64 c.wr, .int .i64 c.f, .int .u64 c.first, .int .u64 c.last] := Blk.far (p := ⟨g, m * 2, none⟩) hCs hne _
      have HKb : Kept (fun _ => False) w (was.setCell ⟨g, m * 2, none⟩ (.int .u64 (c.b - 1 - k))) := HKKs.out.setCell (p := ⟨g, m * 2, none⟩) (.inr HG.out) (.int .u64 (c.b - 1 - k))
      generalize (was.setCell ⟨g, m * 2, none⟩ (.int .u64 (c.b - 1 - k))) = W4 at *
      have HR4 := Lib.hid HRb
      have HC4 := Lib.hid HCb
      have HK4 := Lib.hid HKb
      clear HRb HCb HKb x0 x1 y0 y1 hlg hCs e1 e2 e3 k1
      go_wp2_with fail
      go_roundw
      case rel => exact ⟨k + 1, _, rfl, by omega, by go_num, HR4.out, HC4.out, HK4.out⟩
      case measure => simp [intOf]; omega
    · have HE := Lib.hid (show bootK c k = bootL c by unfold bootL; rw [show c.b.toNat = k by omega])
      have HLL : Hid ((bootL c).length = n) := Lib.hid (by rw [← HE.out, bootK_len, HZ.out, Int.toNat_natCast])
      go_wp2_with fail
      go_ret
      exact ⟨g, by rw [HLL.out]; rfl, by rw [HLL.out, ← HE.out]; exact HRs.out, HKs.out⟩
end Go.Proofs.Ytlpmgbimffmmkaa
