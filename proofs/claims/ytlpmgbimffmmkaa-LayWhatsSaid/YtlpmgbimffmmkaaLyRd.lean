/- Layer 7 (lay): the document's What. -/
import Derived.Test.YtlpmgbimffmmkaaLyRb
import Derived.LoopTactic
namespace Go.Proofs.Ytlpmgbimffmmkaa
open Go.RowKit

/-- No kind below k has this place; no thing below m of the kind k has it. -/
def NH (c : CfgD) (p : Int) (k : Nat) : Prop := ∀ (j : Nat) (i x : Int), j < k → ¬ c.Hit p j i x
def NHi (c : CfgD) (p : Int) (k m : Nat) : Prop := ∀ (i x : Int), i < m → ¬ c.Hit p k i x
theorem NH.next {c : CfgD} {p : Int} {k m : Nat} (h : NH c p k) (hi : NHi c p k m) (hm : c.things k ≤ m) : NH c p (k + 1) := fun j i x hj hh => by
  rcases Nat.lt_or_ge j k with h1 | h1
  · exact h j i x h1 hh
  · obtain rfl : j = k := by omega
    have := hh.2.2.1
    exact hi i x (by omega) hh
theorem NHi.next {c : CfgD} {p : Int} {k m : Nat} (hi : NHi c p k m) (hn : ¬ (c.at_ k m 0 ≤ p ∧ p < c.at_ k m 0 + c.places k)) (hk : k < 17) (hm : (m : Int) < c.things k) (h : c.Bd) : NHi c p k (m + 1) := fun i x hx hh => by
  by_cases g : i < m
  · exact hi i x g hh
  · obtain rfl : i = m := by omega
    obtain ⟨a1, a2, a3, a4, a5, a6, a7⟩ := CfgD.shape_bd h k hk
    have e := CfgD.at_of_hit (c := c) (p := c.beg k + m * c.apart k + 0) (k := k) (i := m) (j := 0) ⟨hk, by omega, hm, by omega, by omega, rfl⟩
    obtain ⟨_, _, _, x0, x1, hp⟩ := hh
    exact hn (by rw [e]; omega)
theorem hit_there {c : CfgD} {p : Int} {k m : Nat} (hn : c.at_ k m 0 ≤ p ∧ p < c.at_ k m 0 + c.places k) (hk : k < 17) (hm : (m : Int) < c.things k) (h : c.Bd) : c.what p = ((k : Int), (m : Int), p - c.at_ k m 0) := by
  obtain ⟨a1, a2, a3, a4, a5, a6, a7⟩ := CfgD.shape_bd h k hk
  have e := CfgD.at_of_hit (c := c) (p := c.beg k + m * c.apart k + 0) (k := k) (i := m) (j := 0) ⟨hk, by omega, hm, by omega, by omega, rfl⟩
  rw [e] at hn ⊢
  exact (CfgD.what_hit h (k := k) (i := m) (j := p - (c.beg k + m * c.apart k + 0)) ⟨hk, by omega, hm, by omega, by omega, by omega⟩).1
theorem NH.what {c : CfgD} {p : Int} (h : NH c p 17) (hb : c.Bd) : c.what p = (-1, 0, 0) := by
  by_cases g : 0 ≤ p ∧ p < c.size
  · obtain ⟨k, i, j, _, hh⟩ := CfgD.hit_what hb g.1 g.2
    exact absurd hh (h k i j hh.1)
  · exact CfgD.what_out hb (by omega)
theorem at_bd {c : CfgD} (h : c.Bd) (k : Nat) (m : Int) : -1 ≤ c.at_ k m 0 ∧ c.at_ k m 0 ≤ 20000 := by
  by_cases g : c.at_ k m 0 = -1
  · omega
  · have := (CfgD.at_hit h g).2.2
    have := (size_bd h).2.1
    omega

theorem place_one (a b d : Int) : (#[Value.int .i64 a, .int .i64 b, .int .i64 d] : Array Value).all (·.oneCell') = true := by simp [Value.oneCell']
/-- What the document's What comes to. -/
def RWhatR (c : CfgD) (p : Int) (w : World) (e : Ending) (w' : World) : Prop := e = .returned (.agg #[.int .i64 (c.what p).1, .int .i64 (c.what p).2.1, .int .i64 (c.what p).2.2]) ∧ Kept (fun _ => False) w w'

def RO (c : CfgD) (p : Int) (w : World) (i : Value) (wr : World) : Prop := ∃ (k : Nat) (W : World), W = wr ∧ k ≤ 17 ∧ i = .int .i64 k ∧ NH c p k ∧ Blk W w.heap.size 24 #[.int .i64 c.t, .int .i64 c.b, .int .i64 c.wr, .int .i64 c.f, .int .u64 c.first, .int .u64 c.last] ∧ Blk W (w.heap.size + 1) 43 #[.int .i64 0, .int .i64 0, .int .i64 0] ∧ Kept (fun _ => False) w W
def RI (c : CfgD) (p : Int) (w : World) (k : Nat) (i : Value) (wr : World) : Prop := ∃ (m : Nat) (W : World), W = wr ∧ (m : Int) ≤ c.things k ∧ i = .int .i64 m ∧ NHi c p k m ∧ Blk W w.heap.size 24 #[.int .i64 c.t, .int .i64 c.b, .int .i64 c.wr, .int .i64 c.f, .int .u64 c.first, .int .u64 c.last] ∧ Blk W (w.heap.size + 1) 43 #[.int .i64 0, .int .i64 0, .int .i64 0] ∧ Kept (fun _ => False) w W

set_option maxRecDepth 100000 in
set_option maxHeartbeats 8000000 in
theorem rWhat_calls (c : CfgD) (h : c.Bd) (p : Int) (hp : -9223372036854775808 ≤ p ∧ p ≤ 9223372036854775807) (w : World) : Calls Try.prog 28 #[cfgV c, .int .i64 p] w (RWhatR c p w) := by
  have HH := Lib.hid h
  obtain ⟨p0, p1⟩ := hp
  clear h
  unfold cfgV
  go_enter Try.func28, Try.ntmps28
  go_wp2_with fail
  go_loopw [5] (fun i wr => RO c p w i wr) (fun i _ => 17 - (intOf i).toNat)
  case atStart => exact ⟨0, _, rfl, Nat.zero_le _, rfl, (fun j i x hj => absurd hj (by omega)), (Blk.new _ _ _).alloc _, Blk.new' _ _ _ _ (by simp), ((Kept.refl _ w).alloc _).alloc _⟩
  case round =>
    obtain ⟨k, wr, rfl, hk, rfl, hn, hc, hr, hkk⟩ := hrel
    have HN := Lib.hid hn
    have HC := Lib.hid hc
    have HR := Lib.hid hr
    have HK := Lib.hid hkk
    clear hn hc hr hkk
    by_cases hlt : k < 17
    · obtain ⟨wo, rfl⟩ : ∃ wo : World, wo = wr := ⟨_, rfl⟩
      obtain ⟨a1, a2, a3, a4, a5, a6, a7⟩ := CfgD.shape_bd HH.out k hlt
      have hd17 : decide ((k : Int) < 17) = true := decide_eq_true (by omega)
      go_wp2_with fail
      clear hd17
      go_loopw [6] (fun i wr => RI c p w k i wr) (fun i _ => (c.things k).toNat - (intOf i).toNat)
      case atStart => exact ⟨0, _, rfl, by omega, rfl, (fun i x hi hh => by have := hh.2.1; omega), HC.out, HR.out, HK.out⟩
      case round =>
        clear HC HR HK
        obtain ⟨m, wr, rfl, hm, rfl, hni, hc, hr, hkk⟩ := hrel
        have HNI := Lib.hid hni
        have HC := Lib.hid hc
        have HR := Lib.hid hr
        have HK := Lib.hid hkk
        have k0 : wr.cell? ⟨w.heap.size, 0, none⟩ = some (.int .i64 c.t) := HC.out.cell 0
        have k1 : wr.cell? ⟨w.heap.size, 1, none⟩ = some (.int .i64 c.b) := HC.out.cell 1
        have k2 : wr.cell? ⟨w.heap.size, 2, none⟩ = some (.int .i64 c.wr) := HC.out.cell 2
        have k3 : wr.cell? ⟨w.heap.size, 3, none⟩ = some (.int .i64 c.f) := HC.out.cell 3
        have k4 : wr.cell? ⟨w.heap.size, 4, none⟩ = some (.int .u64 c.first) := HC.out.cell 4
        have k5 : wr.cell? ⟨w.heap.size, 5, none⟩ = some (.int .u64 c.last) := HC.out.cell 5
        clear hni hc hr hkk
        by_cases hlm : (m : Int) < c.things k
        · obtain ⟨f, hf⟩ : ∃ f, f = c.at_ k m 0 := ⟨_, rfl⟩
          obtain ⟨f0, f1⟩ := at_bd HH.out k m
          rw [← hf] at f0 f1
          have HF := Lib.hid hf
          clear hf
          by_cases g0 : f ≤ p
          · by_cases g1 : p < f + c.places k
            · have HW := Lib.hid (hit_there (by rw [← HF.out]; exact ⟨g0, g1⟩) hlt hlm HH.out)
              go_wp2_with (first | (go_at_call 54; (refine (count_calls c HH.out k hlt _).mono ?_); rintro e wx ⟨rfl, hk⟩; replace HC := Lib.hid (hk.blk HC.out (fun h => h)); replace k0 : wx.cell? ⟨w.heap.size, 0, none⟩ = some (.int .i64 c.t) := HC.out.cell 0; replace k1 : wx.cell? ⟨w.heap.size, 1, none⟩ = some (.int .i64 c.b) := HC.out.cell 1; replace k2 : wx.cell? ⟨w.heap.size, 2, none⟩ = some (.int .i64 c.wr) := HC.out.cell 2; replace k3 : wx.cell? ⟨w.heap.size, 3, none⟩ = some (.int .i64 c.f) := HC.out.cell 3; replace k4 : wx.cell? ⟨w.heap.size, 4, none⟩ = some (.int .u64 c.first) := HC.out.cell 4; replace k5 : wx.cell? ⟨w.heap.size, 5, none⟩ = some (.int .u64 c.last) := HC.out.cell 5; replace HR := Lib.hid (hk.blk HR.out (fun h => h)); replace HK := Lib.hid (HK.out.trans hk); clear hk) | (go_at_call 26; (refine (rAt_calls c HH.out k m 0 _).mono ?_); rintro e wx ⟨rfl, hk⟩; rw [← HF.out]; replace HC := Lib.hid (hk.blk HC.out (fun h => h)); replace k0 : wx.cell? ⟨w.heap.size, 0, none⟩ = some (.int .i64 c.t) := HC.out.cell 0; replace k1 : wx.cell? ⟨w.heap.size, 1, none⟩ = some (.int .i64 c.b) := HC.out.cell 1; replace k2 : wx.cell? ⟨w.heap.size, 2, none⟩ = some (.int .i64 c.wr) := HC.out.cell 2; replace k3 : wx.cell? ⟨w.heap.size, 3, none⟩ = some (.int .i64 c.f) := HC.out.cell 3; replace k4 : wx.cell? ⟨w.heap.size, 4, none⟩ = some (.int .u64 c.first) := HC.out.cell 4; replace k5 : wx.cell? ⟨w.heap.size, 5, none⟩ = some (.int .u64 c.last) := HC.out.cell 5; replace HR := Lib.hid (hk.blk HR.out (fun h => h)); replace HK := Lib.hid (HK.out.trans hk); clear hk) | (go_at_call 55; (refine (each_calls c HH.out k hlt _).mono ?_); rintro e wx ⟨rfl, hk⟩; replace HC := Lib.hid (hk.blk HC.out (fun h => h)); replace k0 : wx.cell? ⟨w.heap.size, 0, none⟩ = some (.int .i64 c.t) := HC.out.cell 0; replace k1 : wx.cell? ⟨w.heap.size, 1, none⟩ = some (.int .i64 c.b) := HC.out.cell 1; replace k2 : wx.cell? ⟨w.heap.size, 2, none⟩ = some (.int .i64 c.wr) := HC.out.cell 2; replace k3 : wx.cell? ⟨w.heap.size, 3, none⟩ = some (.int .i64 c.f) := HC.out.cell 3; replace k4 : wx.cell? ⟨w.heap.size, 4, none⟩ = some (.int .u64 c.first) := HC.out.cell 4; replace k5 : wx.cell? ⟨w.heap.size, 5, none⟩ = some (.int .u64 c.last) := HC.out.cell 5; replace HR := Lib.hid (hk.blk HR.out (fun h => h)); replace HK := Lib.hid (HK.out.trans hk); clear hk) | (refine wpList_store_blk ?_ 43 (.tmp 4) (.tmp 40) ?_ (w.heap.size + 1) ?_ 43 #[.int .i64 0, .int .i64 0, .int .i64 0] #[.int .i64 k, .int .i64 m, .int .i64 (p - f)] ?_ ?_ ?_ ?_ ?_ ?_; rfl; rfl; rfl; rfl; exact HR.out; kernel_rfl; rfl; exact place_one _ _ _; intro wy hB hk; have HBy := Lib.hid hB; have HKy := Lib.hid (Kept.fresh HK.out hk (by omega)); clear hB hk))
              exact bodyPost_ret (v := .agg #[.int .i64 k, .int .i64 m, .int .i64 (p - f)]) (results_cell_row rfl _ _ (w.heap.size + 1) 43 _ (0, 0) _ rfl HBy.out Try.underlying43 rfl (by kernel_rfl)) rfl ⟨by rw [HW.out, ← HF.out], HKy.out⟩
            · have HNN := Lib.hid (NHi.next HNI.out (by rw [← HF.out]; omega) hlt hlm HH.out)
              go_wp2_with (first | (go_at_call 54; (refine (count_calls c HH.out k hlt _).mono ?_); rintro e wx ⟨rfl, hk⟩; replace HC := Lib.hid (hk.blk HC.out (fun h => h)); replace k0 : wx.cell? ⟨w.heap.size, 0, none⟩ = some (.int .i64 c.t) := HC.out.cell 0; replace k1 : wx.cell? ⟨w.heap.size, 1, none⟩ = some (.int .i64 c.b) := HC.out.cell 1; replace k2 : wx.cell? ⟨w.heap.size, 2, none⟩ = some (.int .i64 c.wr) := HC.out.cell 2; replace k3 : wx.cell? ⟨w.heap.size, 3, none⟩ = some (.int .i64 c.f) := HC.out.cell 3; replace k4 : wx.cell? ⟨w.heap.size, 4, none⟩ = some (.int .u64 c.first) := HC.out.cell 4; replace k5 : wx.cell? ⟨w.heap.size, 5, none⟩ = some (.int .u64 c.last) := HC.out.cell 5; replace HR := Lib.hid (hk.blk HR.out (fun h => h)); replace HK := Lib.hid (HK.out.trans hk); clear hk) | (go_at_call 26; (refine (rAt_calls c HH.out k m 0 _).mono ?_); rintro e wx ⟨rfl, hk⟩; rw [← HF.out]; replace HC := Lib.hid (hk.blk HC.out (fun h => h)); replace k0 : wx.cell? ⟨w.heap.size, 0, none⟩ = some (.int .i64 c.t) := HC.out.cell 0; replace k1 : wx.cell? ⟨w.heap.size, 1, none⟩ = some (.int .i64 c.b) := HC.out.cell 1; replace k2 : wx.cell? ⟨w.heap.size, 2, none⟩ = some (.int .i64 c.wr) := HC.out.cell 2; replace k3 : wx.cell? ⟨w.heap.size, 3, none⟩ = some (.int .i64 c.f) := HC.out.cell 3; replace k4 : wx.cell? ⟨w.heap.size, 4, none⟩ = some (.int .u64 c.first) := HC.out.cell 4; replace k5 : wx.cell? ⟨w.heap.size, 5, none⟩ = some (.int .u64 c.last) := HC.out.cell 5; replace HR := Lib.hid (hk.blk HR.out (fun h => h)); replace HK := Lib.hid (HK.out.trans hk); clear hk) | (go_at_call 55; (refine (each_calls c HH.out k hlt _).mono ?_); rintro e wx ⟨rfl, hk⟩; replace HC := Lib.hid (hk.blk HC.out (fun h => h)); replace k0 : wx.cell? ⟨w.heap.size, 0, none⟩ = some (.int .i64 c.t) := HC.out.cell 0; replace k1 : wx.cell? ⟨w.heap.size, 1, none⟩ = some (.int .i64 c.b) := HC.out.cell 1; replace k2 : wx.cell? ⟨w.heap.size, 2, none⟩ = some (.int .i64 c.wr) := HC.out.cell 2; replace k3 : wx.cell? ⟨w.heap.size, 3, none⟩ = some (.int .i64 c.f) := HC.out.cell 3; replace k4 : wx.cell? ⟨w.heap.size, 4, none⟩ = some (.int .u64 c.first) := HC.out.cell 4; replace k5 : wx.cell? ⟨w.heap.size, 5, none⟩ = some (.int .u64 c.last) := HC.out.cell 5; replace HR := Lib.hid (hk.blk HR.out (fun h => h)); replace HK := Lib.hid (HK.out.trans hk); clear hk))
              go_roundw
              case rel => first | exact ⟨m + 1, _, rfl, by omega, by go_num, HNN.out, HC.out, HR.out, HK.out⟩ | ((repeat apply Exists.intro); exact ⟨⟨m + 1, _, rfl, by omega, by go_num, HNN.out, HC.out, HR.out, HK.out⟩, rfl⟩)
              case measure => simp [intOf]; omega
          · have HNN := Lib.hid (NHi.next HNI.out (by rw [← HF.out]; omega) hlt hlm HH.out)
            go_wp2_with (first | (go_at_call 54; (refine (count_calls c HH.out k hlt _).mono ?_); rintro e wx ⟨rfl, hk⟩; replace HC := Lib.hid (hk.blk HC.out (fun h => h)); replace k0 : wx.cell? ⟨w.heap.size, 0, none⟩ = some (.int .i64 c.t) := HC.out.cell 0; replace k1 : wx.cell? ⟨w.heap.size, 1, none⟩ = some (.int .i64 c.b) := HC.out.cell 1; replace k2 : wx.cell? ⟨w.heap.size, 2, none⟩ = some (.int .i64 c.wr) := HC.out.cell 2; replace k3 : wx.cell? ⟨w.heap.size, 3, none⟩ = some (.int .i64 c.f) := HC.out.cell 3; replace k4 : wx.cell? ⟨w.heap.size, 4, none⟩ = some (.int .u64 c.first) := HC.out.cell 4; replace k5 : wx.cell? ⟨w.heap.size, 5, none⟩ = some (.int .u64 c.last) := HC.out.cell 5; replace HR := Lib.hid (hk.blk HR.out (fun h => h)); replace HK := Lib.hid (HK.out.trans hk); clear hk) | (go_at_call 26; (refine (rAt_calls c HH.out k m 0 _).mono ?_); rintro e wx ⟨rfl, hk⟩; rw [← HF.out]; replace HC := Lib.hid (hk.blk HC.out (fun h => h)); replace k0 : wx.cell? ⟨w.heap.size, 0, none⟩ = some (.int .i64 c.t) := HC.out.cell 0; replace k1 : wx.cell? ⟨w.heap.size, 1, none⟩ = some (.int .i64 c.b) := HC.out.cell 1; replace k2 : wx.cell? ⟨w.heap.size, 2, none⟩ = some (.int .i64 c.wr) := HC.out.cell 2; replace k3 : wx.cell? ⟨w.heap.size, 3, none⟩ = some (.int .i64 c.f) := HC.out.cell 3; replace k4 : wx.cell? ⟨w.heap.size, 4, none⟩ = some (.int .u64 c.first) := HC.out.cell 4; replace k5 : wx.cell? ⟨w.heap.size, 5, none⟩ = some (.int .u64 c.last) := HC.out.cell 5; replace HR := Lib.hid (hk.blk HR.out (fun h => h)); replace HK := Lib.hid (HK.out.trans hk); clear hk) | (go_at_call 55; (refine (each_calls c HH.out k hlt _).mono ?_); rintro e wx ⟨rfl, hk⟩; replace HC := Lib.hid (hk.blk HC.out (fun h => h)); replace k0 : wx.cell? ⟨w.heap.size, 0, none⟩ = some (.int .i64 c.t) := HC.out.cell 0; replace k1 : wx.cell? ⟨w.heap.size, 1, none⟩ = some (.int .i64 c.b) := HC.out.cell 1; replace k2 : wx.cell? ⟨w.heap.size, 2, none⟩ = some (.int .i64 c.wr) := HC.out.cell 2; replace k3 : wx.cell? ⟨w.heap.size, 3, none⟩ = some (.int .i64 c.f) := HC.out.cell 3; replace k4 : wx.cell? ⟨w.heap.size, 4, none⟩ = some (.int .u64 c.first) := HC.out.cell 4; replace k5 : wx.cell? ⟨w.heap.size, 5, none⟩ = some (.int .u64 c.last) := HC.out.cell 5; replace HR := Lib.hid (hk.blk HR.out (fun h => h)); replace HK := Lib.hid (HK.out.trans hk); clear hk))
            go_roundw
            case rel => first | exact ⟨m + 1, _, rfl, by omega, by go_num, HNN.out, HC.out, HR.out, HK.out⟩ | ((repeat apply Exists.intro); exact ⟨⟨m + 1, _, rfl, by omega, by go_num, HNN.out, HC.out, HR.out, HK.out⟩, rfl⟩)
            case measure => simp [intOf]; omega
        · have HNN := Lib.hid (NH.next HN.out HNI.out (by omega))
          go_wp2_with (go_at_call 54; (refine (count_calls c HH.out k hlt _).mono ?_); rintro e wx ⟨rfl, hk⟩; replace HC := Lib.hid (hk.blk HC.out (fun h => h)); replace k0 : wx.cell? ⟨w.heap.size, 0, none⟩ = some (.int .i64 c.t) := HC.out.cell 0; replace k1 : wx.cell? ⟨w.heap.size, 1, none⟩ = some (.int .i64 c.b) := HC.out.cell 1; replace k2 : wx.cell? ⟨w.heap.size, 2, none⟩ = some (.int .i64 c.wr) := HC.out.cell 2; replace k3 : wx.cell? ⟨w.heap.size, 3, none⟩ = some (.int .i64 c.f) := HC.out.cell 3; replace k4 : wx.cell? ⟨w.heap.size, 4, none⟩ = some (.int .u64 c.first) := HC.out.cell 4; replace k5 : wx.cell? ⟨w.heap.size, 5, none⟩ = some (.int .u64 c.last) := HC.out.cell 5; replace HR := Lib.hid (hk.blk HR.out (fun h => h)); replace HK := Lib.hid (HK.out.trans hk); clear hk)
          go_roundw
          case rel => first | exact ⟨k + 1, _, rfl, by omega, by go_num, HNN.out, HC.out, HR.out, HK.out⟩ | ((repeat apply Exists.intro); exact ⟨⟨k + 1, _, rfl, by omega, by go_num, HNN.out, HC.out, HR.out, HK.out⟩, rfl⟩)
          case measure => simp [intOf]; omega
    · obtain rfl : k = 17 := by omega
      have HW := Lib.hid (NH.what HN.out HH.out)
      go_wp2_with (refine wpList_store_blk ?_ 43 (.tmp 4) (.tmp 41) ?_ (w.heap.size + 1) ?_ 43 #[.int .i64 0, .int .i64 0, .int .i64 0] #[.int .i64 (-1), .int .i64 0, .int .i64 0] ?_ ?_ ?_ ?_ ?_ ?_; rfl; rfl; rfl; rfl; exact HR.out; kernel_rfl; rfl; exact place_one _ _ _; intro wy hB hk; have HBy := Lib.hid hB; have HKy := Lib.hid (Kept.fresh HK.out hk (by omega)); clear hB hk)
      exact bodyPost_ret (v := .agg #[.int .i64 (-1), .int .i64 0, .int .i64 0]) (results_cell_row rfl _ _ (w.heap.size + 1) 43 _ (0, 0) _ rfl HBy.out Try.underlying43 rfl (by kernel_rfl)) rfl ⟨by rw [HW.out], HKy.out⟩
end Go.Proofs.Ytlpmgbimffmmkaa
