/- Layer 9 (view): begin, Tell. -/
import Derived.Test.YtebffkoonbkhnaaVwA
namespace Go.Proofs.Ytebffkoonbkhnaa
open Go.RowKit
attribute [local go_sem ↓] loadMap_eq

theorem VwT.mk {w w' : World} {B : Nat} {c : CfgD} {v : VwD} {e : Ending} (h1 : e = .returned (.tuple #[])) (h2 : VwS w' B c v) (h3 : Kept (fun k => k = B) w w') : VwT w B c v e w' := ⟨h1, h2, h3⟩
set_option maxRecDepth 100000 in
set_option maxHeartbeats 2000000 in
theorem vwBegin_calls {w : World} {B : Nat} {c : CfgD} {v : VwD} (h : VwS w B c v) (there : Bool) (block pos : Int) :
    Calls Try.prog 95 #[.pointer (some ⟨B, 0, none⟩), .bool there, .int .i64 block, .int .i64 pos] w (VwT w B c (v.beg there block pos)) := by
  obtain ⟨c1, c2, c3, c4, c5, c6, c7, c8⟩ := h.cells
  have f26 := Blk.frozen h 26
  have f27 := Blk.frozen h 27
  have f28 := Blk.frozen h 28
  have f29 := Blk.frozen h 29
  have f30 := Blk.frozen h 30
  have HH := Lib.hid h
  clear h
  by_cases h2 : v.st = 2
  · have HE : Hid (v.beg there block pos = v) := Lib.hid (by unfold VwD.beg; rw [if_pos h2])
    rw [h2] at c8
    clear h2
    go_enter Try.func95, Try.ntmps95
    go_wp2_with fail
    exact bodyPost_ret (v := .tuple #[]) (by simp [results, Try.results95, go_sem]) rfl (VwT.mk rfl (by rw [HE.out]; exact HH.out) (Kept.refl _ w))
  have h2' : (v.st == 2) = false := by simpa using h2
  cases there with
  | false =>
    have HE : Hid (v.beg false block pos = { v with block := block, pos := pos, val := 0, st := 3 }) := Lib.hid (by unfold VwD.beg; rw [if_neg h2, if_pos rfl])
    clear h2
    go_enter Try.func95, Try.ntmps95
    go_wp2_with fail
    go_end0
    exact VwT.mk rfl (by rw [HE.out]; exact (((HH.out.set_ 26 _).set_ 27 _).set_ 29 _).set_ 30 _) (((((Kept.refl _ w).setAt _).setAt _).setAt _).setAt _)
  | true =>
    by_cases hb : block = -1
    · have HE : Hid (v.beg true block pos = ({ v with block := block, pos := pos, val := 0 } : VwD).last) := Lib.hid (by unfold VwD.beg; rw [if_neg h2, if_neg (by simp), if_pos (.inl hb)])
      clear h2
      subst hb
      have HB : Hid (VwS (((w.setCell ⟨B, 26, none⟩ (.int .i64 (-1))).setCell ⟨B, 27, none⟩ (.int .i64 pos)).setCell ⟨B, 29, none⟩ (.int .u64 0)) B c { v with block := -1, pos := pos, val := 0 }) := Lib.hid (((HH.out.set_ 26 _).set_ 27 _).set_ 29 _)
      go_enter Try.func95, Try.ntmps95
      go_wp2_with (go_at_call 73; (with_reducible refine (vwLast_calls HB.out).mono ?_); rintro e w1 ⟨rfl, h1, hk⟩)
      go_end0
      exact VwT.mk rfl (by rw [HE.out]; exact h1) (((((Kept.refl _ w).setAt _).setAt _).setAt _).trans hk)
    · have hb' : (block == -1) = false := by simpa using hb
      by_cases hd : block = v.held
      · have HE : Hid (v.beg true block pos = ({ v with block := block, pos := pos, val := 0 } : VwD).last) := Lib.hid (by unfold VwD.beg; rw [if_neg h2, if_neg (by simp), if_pos (.inr hd)])
        have hd' : (block == v.held) = true := by simpa using hd
        clear h2 hd hb
        have HB : Hid (VwS (((w.setCell ⟨B, 26, none⟩ (.int .i64 block)).setCell ⟨B, 27, none⟩ (.int .i64 pos)).setCell ⟨B, 29, none⟩ (.int .u64 0)) B c { v with block := block, pos := pos, val := 0 }) := Lib.hid (((HH.out.set_ 26 _).set_ 27 _).set_ 29 _)
        go_enter Try.func95, Try.ntmps95
        go_wp2_with (go_at_call 73; (with_reducible refine (vwLast_calls HB.out).mono ?_); rintro e w1 ⟨rfl, h1, hk⟩)
        go_end0
        exact VwT.mk rfl (by rw [HE.out]; exact h1) (((((Kept.refl _ w).setAt _).setAt _).setAt _).trans hk)
      · have HE : Hid (v.beg true block pos = { v with block := block, pos := pos, val := 0, next := 0, st := 0 }) := Lib.hid (by unfold VwD.beg; rw [if_neg h2, if_neg (by simp), if_neg (by simp [hb, hd])])
        have hd' : (block == v.held) = false := by simpa using hd
        clear h2 hd hb
        go_enter Try.func95, Try.ntmps95
        go_wp2_with fail
        go_end0
        exact VwT.mk rfl (by rw [HE.out]; exact ((((HH.out.set_ 26 _).set_ 27 _).set_ 29 _).set_ 28 _).set_ 30 _) ((((((Kept.refl _ w).setAt _).setAt _).setAt _).setAt _).setAt _)

/-- An answer. -/
def outV (val seq : Int) (ok : Bool) : Value := .agg #[.int .u64 val, .int .u64 seq, .bool ok]
set_option maxRecDepth 100000 in
set_option maxHeartbeats 2000000 in
theorem vwTell_calls {w : World} {B : Nat} {c : CfgD} {v : VwD} (h : VwS w B c v) (val seq : Int) (ok : Bool) :
    Calls Try.prog 20 #[.pointer (some ⟨B, 0, none⟩), outV val seq ok] w (VwT w B c (v.tell val seq)) := by
  have hA : VwS (w.alloc (.cells #[.int .u64 val, .int .u64 seq, .bool ok] 55)) B c v := Blk.alloc h _
  obtain ⟨c1, c2, c3, c4, c5, c6, c7, c8⟩ := hA.cells
  have f25 := Blk.frozen hA 25
  have f28 := Blk.frozen hA 28
  have f29 := Blk.frozen hA 29
  have f30 := Blk.frozen hA 30
  have HH := Lib.hid hA
  have HK : Hid (Kept (fun k => k = B) w (w.alloc (.cells #[.int .u64 val, .int .u64 seq, .bool ok] 55))) := Lib.hid ((Kept.refl _ w).alloc _)
  clear h hA
  unfold outV
  by_cases h0 : v.st = 0
  · rw [h0] at c8
    by_cases hn : v.next = 0
    · have HE : Hid (v.tell val seq = { v with held := -1, next := 1 }) := Lib.hid (by unfold VwD.tell; rw [if_neg (by simp [h0]), if_pos hn])
      rw [hn] at c6
      clear h0 hn
      go_enter Try.func20, Try.ntmps20
      go_wp2_with fail
      go_end0
      exact VwT.mk rfl (by rw [HE.out]; exact (HH.out.set_ 25 _).set_ 28 _) ((HK.out.setAt _).setAt _)
    have hn' : (v.next == 0) = false := by simpa using hn
    by_cases hs : v.seq < seq
    · have HE : Hid (v.tell val seq = { v with st := 2 }) := Lib.hid (by unfold VwD.tell; rw [if_neg (by simp [h0]), if_neg hn, if_pos hs])
      clear h0 hn
      go_enter Try.func20, Try.ntmps20
      go_wp2_with fail
      go_quiet (fail)
      go_wp2_with fail
      go_end0
      exact VwT.mk rfl (by rw [HE.out]; exact ((HH.out.drewN nq).set_ 30 _)) ((HK.out.drewN nq).setAt _)
    by_cases h2 : v.next = 2
    · have HE : Hid (v.tell val seq = { v with val := val, st := 1 }) := Lib.hid (by unfold VwD.tell; rw [if_neg (by simp [h0]), if_neg hn, if_neg hs, if_pos h2])
      rw [h2] at c6
      clear h0 hn h2
      go_enter Try.func20, Try.ntmps20
      go_wp2_with fail
      go_quiet (fail)
      go_wp2_with fail
      go_end0
      exact VwT.mk rfl (by rw [HE.out]; exact ((HH.out.drewN nq).set_ 29 _).set_ 30 _) (((HK.out.drewN nq).setAt _).setAt _)
    have h2' : (v.next == 2) = false := by simpa using h2
    by_cases hv : val = 1
    · subst hv
      have HE : Hid (v.tell 1 seq = ({ v with held := v.block } : VwD).last) := Lib.hid (by unfold VwD.tell; rw [if_neg (by simp [h0]), if_neg hn, if_neg hs, if_neg h2, if_neg (by simp)])
      have HB' : ∀ nq, VwS (((w.alloc (.cells #[.int .u64 1, .int .u64 seq, .bool ok] 55)).drewN nq).setCell ⟨B, 25, none⟩ (.int .i64 v.block)) B c { v with held := v.block } := fun nq => (HH.out.drewN nq).set_ 25 _
      clear h0 hn h2
      go_enter Try.func20, Try.ntmps20
      go_wp2_with fail
      go_quiet (fail)
      go_wp2_with (go_at_call 73; (with_reducible refine (vwLast_calls (HB' nq)).mono ?_); rintro e w1 ⟨rfl, h1, hk⟩)
      go_end0
      exact VwT.mk rfl (by rw [HE.out]; exact h1) (((HK.out.drewN nq).setAt _).trans hk)
    · have HE : Hid (v.tell val seq = { v with st := 3 }) := Lib.hid (by unfold VwD.tell; rw [if_neg (by simp [h0]), if_neg hn, if_neg hs, if_neg h2, if_pos hv])
      have hv' : (val == 1) = false := by simpa using hv
      clear h0 hn h2 hv
      go_enter Try.func20, Try.ntmps20
      go_wp2_with fail
      go_quiet (fail)
      go_wp2_with fail
      go_end0
      exact VwT.mk rfl (by rw [HE.out]; exact ((HH.out.drewN nq).set_ 30 _)) ((HK.out.drewN nq).setAt _)
  · have HE : Hid (v.tell val seq = v) := Lib.hid (by unfold VwD.tell; rw [if_pos h0])
    have h0' : (v.st == 0) = false := by simpa using h0
    clear h0
    go_enter Try.func20, Try.ntmps20
    go_wp2_with fail
    go_end0
    exact VwT.mk rfl (by rw [HE.out]; exact HH.out) HK.out
end Go.Proofs.Ytebffkoonbkhnaa
