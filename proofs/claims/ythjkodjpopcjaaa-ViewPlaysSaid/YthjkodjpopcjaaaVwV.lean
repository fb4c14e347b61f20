/- Law 09's alive. -/
import Derived.Test.YthjkodjpopcjaaaVwX
namespace Go.Proofs.Ythjkodjpopcjaaa
open Go.RowKit
attribute [local go_sem ↓] loadMap_eq loadCfg_eq

attribute [local go_sem ↓] stMap_eq

/-- The example's numbers. -/
def cA : CfgD := ⟨2, 3, 4, 50, 5, 99⟩
theorem cA_ok : cA.Ok := ⟨by decide, by decide, by decide, by decide, by decide, by decide, by decide, by decide, by decide, by decide⟩
def opZ : Array Value := #[.int .i64 0, .int .i64 0, .int .u64 0, .int .u64 0, .int .u64 0, .int .u64 0]
theorem sample9_calls (w : World) : Calls Try.prog 53 #[] w fun e w' => e = .returned (.agg #[.int .i64 2, .int .i64 3, .int .i64 4, .int .i64 50, .int .u64 5, .int .u64 99]) ∧ Kept (fun _ => False) w w' := by
  go_enter Try.func53, Try.ntmps53
  go_wp2_with fail
  exact bodyPost_ret (v := .agg _) (results_cell_row rfl _ _ w.heap.size 24 _ (0, 0) _ rfl (Blk.new' _ _ _ _ (by simp)) Try.underlying24 rfl (by kernel_rfl)) rfl ⟨rfl, (Kept.refl _ _).alloc _⟩
theorem of9 (w : World) : Calls Try.prog 19 #[.agg #[.int .i64 2, .int .i64 3, .int .i64 4, .int .i64 50, .int .u64 5, .int .u64 99]] w fun e w' => e = .returned (.tuple #[.agg (mapA cA), .int .i64 0]) ∧ Kept (fun _ => False) w w' := ofA cA cA_ok w

theorem stMap9 (c : CfgD) (w : World) : ∃ w', (stV 31 ⟨w.heap.size, 0, none⟩ (.agg (mapA c))).run Try.prog (w.alloc (.cells #[.int .i64 0, .int .i64 0, .int .i64 0, .int .i64 0, .int .u64 0, .int .u64 0, .int .i64 0, .int .i64 0, .int .i64 0, .int .i64 0, .int .i64 0, .int .i64 0, .int .i64 0, .int .i64 0, .int .i64 0, .int .i64 0, .int .i64 0, .int .i64 0, .int .i64 0, .int .i64 0, .int .i64 0, .int .i64 0, .int .i64 0] 31)) = .ok () w' ∧ Blk w' w.heap.size 31 (mapA c) ∧ Kept (fun k => k = w.heap.size) (w.alloc (.cells #[.int .i64 0, .int .i64 0, .int .i64 0, .int .i64 0, .int .u64 0, .int .u64 0, .int .i64 0, .int .i64 0, .int .i64 0, .int .i64 0, .int .i64 0, .int .i64 0, .int .i64 0, .int .i64 0, .int .i64 0, .int .i64 0, .int .i64 0, .int .i64 0, .int .i64 0, .int .i64 0, .int .i64 0, .int .i64 0, .int .i64 0] 31)) w' :=
  stV_blk (ty := 31) (cells := mapA c) (Blk.new _ _ _) (by kernel_rfl) rfl (mapA_one c)
section
variable {w0 w : World} {B g : Nat} {c : CfgD} {v : VwD} {t : TypeId} {cs : Array Value} {L : List (Nat × TypeId × Array Value)}
theorem VX.new (k : Kept (fun _ => False) w0 w) (hb : Blk w g t cs) (who seq : Int) : Calls Try.prog 54 #[.agg (mapA c), .int .i64 who, .int .u64 seq] w fun e w' => ∃ B, e = .returned (.pointer (some ⟨B, 0, none⟩)) ∧ VX w0 w' B c ⟨who, seq, -1, 0, 0, 0, 0, 1⟩ [(g, t, cs)] :=
  (newA c who seq w).mono fun _ _ ⟨B, h1, h2, h3, h4⟩ => ⟨B, h1, h2, k.trans h3, Nat.le_trans k.size h4, fun x hx => by
    rw [List.mem_singleton] at hx
    subst hx
    have := hb.lt
    exact ⟨h3.blk hb (fun h => h), by show g ≠ B; omega⟩⟩
theorem VX.askNo (h : VX w0 w B c v L) (hc : c.Bd) (hb : v.st = 0 → v.next = 0 → 0 ≤ v.block ∧ v.block < 64) {k p ov os nv ns : Int} {b : Bool} (he : v.ask c = (⟨k, p, ov, os, nv, ns⟩, b)) :
    Calls Try.prog 13 #[.pointer (some ⟨B, 0, none⟩)] w fun e w1 =>
      e = .returned (.tuple #[.agg #[.int .i64 k, .int .i64 p, .int .u64 ov, .int .u64 os, .int .u64 nv, .int .u64 ns], .bool b]) ∧ VX w0 w1 B c v L :=
  (h.ask hc hb).mono fun _ _ ⟨h1, h2⟩ => ⟨by rw [h1, he]; rfl, h2⟩
end
deriving instance DecidableEq for VwD
def v0 : VwD := ⟨1, 6, -1, 0, 0, 0, 0, 1⟩
def v1 : VwD := ⟨1, 6, -1, 2, 169, 0, 0, 0⟩
def v2 : VwD := ⟨1, 6, -1, 2, 169, 1, 0, 0⟩
def v3 : VwD := ⟨1, 6, 2, 2, 169, 2, 0, 0⟩
def v4 : VwD := ⟨1, 6, 2, 2, 169, 2, 9, 1⟩
def v5 : VwD := ⟨1, 6, 2, -1, 134, 2, 0, 0⟩
def v6 : VwD := ⟨1, 6, 2, -1, 134, 2, 0, 2⟩
theorem vs1 : v0.word cA 2 4 = v1 := by decide +kernel
theorem vs2 : v1.tell 0 0 = v2 := by decide +kernel
theorem vs3 : v2.tell 1 6 = v3 := by decide +kernel
theorem vs4 : v3.tell 9 3 = v4 := by decide +kernel
theorem vs5 : v4.cell cA 134 = v5 := by decide +kernel
theorem vs6 : v5.tell 9 7 = v6 := by decide +kernel
theorem vs7 : v6.live cA 0 = v6 := by decide +kernel
theorem as1 : v1.ask cA = (⟨1, 60, 0, 0, 3, 0⟩, true) := by decide +kernel
theorem as2 : v2.ask cA = (⟨0, 133, 0, 0, 0, 0⟩, true) := by decide +kernel
theorem as3 : v3.ask cA = (⟨0, 169, 0, 0, 0, 0⟩, true) := by decide +kernel
theorem as4 : v4.ask cA = (⟨0, 0, 0, 0, 0, 0⟩, false) := by decide +kernel
theorem as5 : v5.ask cA = (⟨0, 134, 0, 0, 0, 0⟩, true) := by decide +kernel
theorem as6 : v6.ask cA = (⟨0, 0, 0, 0, 0, 0⟩, false) := by decide +kernel
theorem at9a (w : World) : Calls Try.prog 49 #[.agg (mapA cA), .int .i64 12, .int .i64 0, .int .i64 0] w fun e w' => e = .returned (.int .i64 134) ∧ Kept (fun _ => False) w w' := at_calls cA cA_ok.bd 12 0 0 w
theorem at9b (w : World) : Calls Try.prog 49 #[.agg (mapA cA), .int .i64 3, .int .i64 1, .int .i64 0] w fun e w' => e = .returned (.int .i64 60) ∧ Kept (fun _ => False) w w' := at_calls cA cA_ok.bd 3 1 0 w
theorem at9c (w : World) : Calls Try.prog 49 #[.agg (mapA cA), .int .i64 11, .int .i64 2, .int .i64 0] w fun e w' => e = .returned (.int .i64 133) ∧ Kept (fun _ => False) w w' := at_calls cA cA_ok.bd 11 2 0 w
theorem at9d (w : World) : Calls Try.prog 49 #[.agg (mapA cA), .int .i64 16, .int .i64 2, .int .i64 4] w fun e w' => e = .returned (.int .i64 169) ∧ Kept (fun _ => False) w w' := at_calls cA cA_ok.bd 16 2 4 w

theorem al9_S {w0 w : World} {B m a b d e : Nat} {v : VwD} {L : List (Nat × TypeId × Array Value)} (h : VX w0 w B cA v L) (h1 : (m, 31, mapA cA) ∈ L) (h2 : (a, 43, #[.int .i64 1, .int .i64 60, .int .u64 0, .int .u64 0, .int .u64 3, .int .u64 0]) ∈ L) (h3 : (b, 43, #[.int .i64 0, .int .i64 133, .int .u64 0, .int .u64 0, .int .u64 0, .int .u64 0]) ∈ L) (h4 : (d, 43, #[.int .i64 0, .int .i64 169, .int .u64 0, .int .u64 0, .int .u64 0, .int .u64 0]) ∈ L) (h5 : (e, 43, #[.int .i64 0, .int .i64 134, .int .u64 0, .int .u64 0, .int .u64 0, .int .u64 0]) ∈ L) :
    (loadMap ⟨m, 0, none⟩).run Try.prog w = .ok (.agg (mapA cA)) w ∧ w.cell? ⟨a, 0, none⟩ = some (.int .i64 1) ∧ w.cell? ⟨a, 1, none⟩ = some (.int .i64 60) ∧ w.cell? ⟨a, 4, none⟩ = some (.int .u64 3) ∧ w.cell? ⟨b, 0, none⟩ = some (.int .i64 0) ∧ w.cell? ⟨b, 1, none⟩ = some (.int .i64 133) ∧ w.cell? ⟨d, 1, none⟩ = some (.int .i64 169) ∧ w.cell? ⟨e, 1, none⟩ = some (.int .i64 134) :=
  ⟨loadMap_arr (h.blks _ h1).1 rfl, (h.blks _ h2).1.cell 0, (h.blks _ h2).1.cell 1, (h.blks _ h2).1.cell 4, (h.blks _ h3).1.cell 0, (h.blks _ h3).1.cell 1, (h.blks _ h4).1.cell 1, (h.blks _ h5).1.cell 1⟩

set_option maxRecDepth 100000 in
set_option maxHeartbeats 40000000 in
theorem alive9_calls (w : World) : Calls Try.prog 9 #[] w fun e w' => e = .returned (.bool true) ∧ Kept (fun _ => False) w w' := by
  have hc := Lib.hid cA_ok.bd
  go_enter Try.func9, Try.ntmps9
  go_wp2_with (first
    | (go_at_call 53; ((with_reducible refine (sample9_calls _).mono ?_); rintro e w1 ⟨rfl, hk1⟩; have HK1 := Lib.hid hk1; clear hk1))
    | (go_at_call 19; ((with_reducible refine (of9 _).mono ?_); rintro e w2 ⟨rfl, hk2⟩; have HK2 := Lib.hid (HK1.out.trans hk2); clear hk2; obtain ⟨w3, hst3, hB3, hK3⟩ := stMap9 cA w2; have HB3 := Lib.hid hB3; have HK3 := Lib.hid (Kept.fresh9 (HK2.out.alloc _) hK3 HK2.out.size); have hl3 := loadMap_arr hB3 rfl; clear hB3 hK3))
    | (go_at_call 54; ((with_reducible refine (VX.new HK3.out HB3.out 1 6).mono ?_); rintro e w4 ⟨B, rfl, h4⟩; have H4 : Hid (VX w w4 B cA v0 _) := Lib.hid h4; clear h4 hl3))
    | (go_at_call 55; ((with_reducible refine (VX.word H4.out hc.out 2 4).mono ?_); rw [vs1]; rintro e w5 ⟨rfl, h⟩; have H5 := Lib.hid h; clear h))
    | (go_at_call 13; ((with_reducible refine (VX.askNo H5.out hc.out (by decide) as1).mono ?_); rintro e w6 ⟨rfl, h⟩; have H6 := Lib.hid h; clear h))
    | (go_at_call 16; ((with_reducible refine (VX.tell (H6.out.more 43 #[.int .i64 1, .int .i64 60, .int .u64 0, .int .u64 0, .int .u64 3, .int .u64 0]) 0 0 true).mono ?_); rw [vs2]; rintro e w8 ⟨rfl, h⟩; have H8 := Lib.hid h; clear h))
    | (go_at_call 13; ((with_reducible refine (VX.askNo H8.out hc.out (by decide) as2).mono ?_); rintro e w9 ⟨rfl, h⟩; have H9 := Lib.hid h; clear h))
    | (go_at_call 16; ((with_reducible refine (VX.tell (H9.out.more 43 #[.int .i64 0, .int .i64 133, .int .u64 0, .int .u64 0, .int .u64 0, .int .u64 0]) 1 6 false).mono ?_); rw [vs3]; rintro e w11 ⟨rfl, h⟩; have H11 := Lib.hid h; clear h))
    | (go_at_call 13; ((with_reducible refine (VX.askNo H11.out hc.out (by decide) as3).mono ?_); rintro e w12 ⟨rfl, h⟩; have H12 := Lib.hid h; clear h))
    | (go_at_call 15; ((with_reducible refine (VX.fin (H12.out.more 43 #[.int .i64 0, .int .i64 169, .int .u64 0, .int .u64 0, .int .u64 0, .int .u64 0])).mono ?_); rintro e w14 ⟨rfl, h⟩; have H14 := Lib.hid h; clear h; simp only [v3]))
    | (go_at_call 16; ((with_reducible refine (VX.tell H14.out 9 3 false).mono ?_); rw [vs4]; rintro e w15 ⟨rfl, h⟩; have H15 := Lib.hid h; clear h))
    | (go_at_call 15; ((with_reducible refine (VX.fin H15.out).mono ?_); rintro e w16 ⟨rfl, h⟩; have H16 := Lib.hid h; clear h; simp only [v4]))
    | (go_at_call 13; ((with_reducible refine (VX.askNo H16.out hc.out (by decide) as4).mono ?_); rintro e w17 ⟨rfl, h⟩; have H17 := Lib.hid h; clear h; have H18 := Lib.hid (H17.out.more 43 #[.int .i64 0, .int .i64 0, .int .u64 0, .int .u64 0, .int .u64 0, .int .u64 0]); have hl18 := loadMap_arr (H18.out.blks (w2.heap.size, 31, mapA cA) (by simp)).1 rfl))
    | (go_at_call 49; ((with_reducible refine (at9a _).mono ?_); rintro e w19 ⟨rfl, hk⟩; have H19 := Lib.hid (H18.out.keep hk); clear hk hl18))
    | (go_at_call 56; ((with_reducible refine (VX.cell H19.out hc.out 134 (by decide)).mono ?_); rw [vs5]; rintro e w20 ⟨rfl, h⟩; have H20 := Lib.hid h; clear h))
    | (go_at_call 13; ((with_reducible refine (VX.askNo H20.out hc.out (by decide) as5).mono ?_); rintro e w21 ⟨rfl, h⟩; have H21 := Lib.hid h; clear h))
    | (go_at_call 16; ((with_reducible refine (VX.tell (H21.out.more 43 #[.int .i64 0, .int .i64 134, .int .u64 0, .int .u64 0, .int .u64 0, .int .u64 0]) 9 7 false).mono ?_); rw [vs6]; rintro e w22 ⟨rfl, h⟩; have H22 := Lib.hid h; clear h))
    | (go_at_call 15; ((with_reducible refine (VX.fin H22.out).mono ?_); rintro e w23 ⟨rfl, h⟩; have H23 := Lib.hid h; clear h; simp only [v6]))
    | (go_at_call 57; ((with_reducible refine (VX.live H23.out hc.out 0).mono ?_); rw [vs7]; rintro e w24 ⟨rfl, h⟩; have H24 := Lib.hid h; clear h))
    | (go_at_call 13; ((with_reducible refine (VX.askNo H24.out hc.out (by decide) as6).mono ?_); rintro e w25 ⟨rfl, h⟩; have H25 := Lib.hid h; clear h)))
  have H26 := Lib.hid ((H25.out.more 43 #[.int .i64 0, .int .i64 0, .int .u64 0, .int .u64 0, .int .u64 0, .int .u64 0]).keep (Kept.refl _ _).drew)
  have S26 : Hid ((loadMap ⟨w2.heap.size, 0, none⟩).run Try.prog (w25.alloc (.cells #[.int .i64 0, .int .i64 0, .int .u64 0, .int .u64 0, .int .u64 0, .int .u64 0] 43)).drew = .ok (.agg (mapA cA)) (w25.alloc (.cells #[.int .i64 0, .int .i64 0, .int .u64 0, .int .u64 0, .int .u64 0, .int .u64 0] 43)).drew ∧ (w25.alloc (.cells #[.int .i64 0, .int .i64 0, .int .u64 0, .int .u64 0, .int .u64 0, .int .u64 0] 43)).drew.cell? ⟨w6.heap.size, 0, none⟩ = some (.int .i64 1) ∧ (w25.alloc (.cells #[.int .i64 0, .int .i64 0, .int .u64 0, .int .u64 0, .int .u64 0, .int .u64 0] 43)).drew.cell? ⟨w6.heap.size, 1, none⟩ = some (.int .i64 60) ∧ (w25.alloc (.cells #[.int .i64 0, .int .i64 0, .int .u64 0, .int .u64 0, .int .u64 0, .int .u64 0] 43)).drew.cell? ⟨w6.heap.size, 4, none⟩ = some (.int .u64 3) ∧ (w25.alloc (.cells #[.int .i64 0, .int .i64 0, .int .u64 0, .int .u64 0, .int .u64 0, .int .u64 0] 43)).drew.cell? ⟨w9.heap.size, 0, none⟩ = some (.int .i64 0) ∧ (w25.alloc (.cells #[.int .i64 0, .int .i64 0, .int .u64 0, .int .u64 0, .int .u64 0, .int .u64 0] 43)).drew.cell? ⟨w9.heap.size, 1, none⟩ = some (.int .i64 133) ∧ (w25.alloc (.cells #[.int .i64 0, .int .i64 0, .int .u64 0, .int .u64 0, .int .u64 0, .int .u64 0] 43)).drew.cell? ⟨w12.heap.size, 1, none⟩ = some (.int .i64 169) ∧ (w25.alloc (.cells #[.int .i64 0, .int .i64 0, .int .u64 0, .int .u64 0, .int .u64 0, .int .u64 0] 43)).drew.cell? ⟨w21.heap.size, 1, none⟩ = some (.int .i64 134)) := Lib.hid (al9_S H26.out (by simp) (by simp) (by simp) (by simp) (by simp))
  simp only [List.append_eq, List.cons_append, List.nil_append]
  go_region_held3 (fun w' => (loadMap ⟨w2.heap.size, 0, none⟩).run Try.prog w' = .ok (.agg (mapA cA)) w' ∧ w'.cell? ⟨w6.heap.size, 0, none⟩ = some (.int .i64 1) ∧ w'.cell? ⟨w6.heap.size, 1, none⟩ = some (.int .i64 60) ∧ w'.cell? ⟨w6.heap.size, 4, none⟩ = some (.int .u64 3) ∧ w'.cell? ⟨w9.heap.size, 0, none⟩ = some (.int .i64 0) ∧ w'.cell? ⟨w9.heap.size, 1, none⟩ = some (.int .i64 133) ∧ w'.cell? ⟨w12.heap.size, 1, none⟩ = some (.int .i64 169) ∧ w'.cell? ⟨w21.heap.size, 1, none⟩ = some (.int .i64 134))
    (with_reducible (first | exact S30.out | exact S29.out | exact S28.out | exact S27.out | exact S26.out))
    ((first
      | (go_at_call 49; ((with_reducible refine (at9a _).mono ?_); rintro e w30 ⟨rfl, hk⟩; have H30 := Lib.hid (H29.out.keep hk); have S30 : Hid ((loadMap ⟨w2.heap.size, 0, none⟩).run Try.prog w30 = .ok (.agg (mapA cA)) w30 ∧ w30.cell? ⟨w6.heap.size, 0, none⟩ = some (.int .i64 1) ∧ w30.cell? ⟨w6.heap.size, 1, none⟩ = some (.int .i64 60) ∧ w30.cell? ⟨w6.heap.size, 4, none⟩ = some (.int .u64 3) ∧ w30.cell? ⟨w9.heap.size, 0, none⟩ = some (.int .i64 0) ∧ w30.cell? ⟨w9.heap.size, 1, none⟩ = some (.int .i64 133) ∧ w30.cell? ⟨w12.heap.size, 1, none⟩ = some (.int .i64 169) ∧ w30.cell? ⟨w21.heap.size, 1, none⟩ = some (.int .i64 134)) := Lib.hid (al9_S H30.out (by simp) (by simp) (by simp) (by simp) (by simp)); clear hk))
      | (go_at_call 17; ((with_reducible refine (vwHeld_calls H29.out.vw).mono ?_); rintro e wh ⟨rfl, rfl⟩; simp only [v6]))
      | (go_at_call 49; ((with_reducible refine (at9d _).mono ?_); rintro e w29 ⟨rfl, hk⟩; have H29 := Lib.hid (H28.out.keep hk); have S29 : Hid ((loadMap ⟨w2.heap.size, 0, none⟩).run Try.prog w29 = .ok (.agg (mapA cA)) w29 ∧ w29.cell? ⟨w6.heap.size, 0, none⟩ = some (.int .i64 1) ∧ w29.cell? ⟨w6.heap.size, 1, none⟩ = some (.int .i64 60) ∧ w29.cell? ⟨w6.heap.size, 4, none⟩ = some (.int .u64 3) ∧ w29.cell? ⟨w9.heap.size, 0, none⟩ = some (.int .i64 0) ∧ w29.cell? ⟨w9.heap.size, 1, none⟩ = some (.int .i64 133) ∧ w29.cell? ⟨w12.heap.size, 1, none⟩ = some (.int .i64 169) ∧ w29.cell? ⟨w21.heap.size, 1, none⟩ = some (.int .i64 134)) := Lib.hid (al9_S H29.out (by simp) (by simp) (by simp) (by simp) (by simp)); clear hk))
      | (go_at_call 49; ((with_reducible refine (at9c _).mono ?_); rintro e w28 ⟨rfl, hk⟩; have H28 := Lib.hid (H27.out.keep hk); have S28 : Hid ((loadMap ⟨w2.heap.size, 0, none⟩).run Try.prog w28 = .ok (.agg (mapA cA)) w28 ∧ w28.cell? ⟨w6.heap.size, 0, none⟩ = some (.int .i64 1) ∧ w28.cell? ⟨w6.heap.size, 1, none⟩ = some (.int .i64 60) ∧ w28.cell? ⟨w6.heap.size, 4, none⟩ = some (.int .u64 3) ∧ w28.cell? ⟨w9.heap.size, 0, none⟩ = some (.int .i64 0) ∧ w28.cell? ⟨w9.heap.size, 1, none⟩ = some (.int .i64 133) ∧ w28.cell? ⟨w12.heap.size, 1, none⟩ = some (.int .i64 169) ∧ w28.cell? ⟨w21.heap.size, 1, none⟩ = some (.int .i64 134)) := Lib.hid (al9_S H28.out (by simp) (by simp) (by simp) (by simp) (by simp)); clear hk))
      | (go_at_call 49; ((with_reducible refine (at9b _).mono ?_); rintro e w27 ⟨rfl, hk⟩; have H27 := Lib.hid (H26.out.keep hk); have S27 : Hid ((loadMap ⟨w2.heap.size, 0, none⟩).run Try.prog w27 = .ok (.agg (mapA cA)) w27 ∧ w27.cell? ⟨w6.heap.size, 0, none⟩ = some (.int .i64 1) ∧ w27.cell? ⟨w6.heap.size, 1, none⟩ = some (.int .i64 60) ∧ w27.cell? ⟨w6.heap.size, 4, none⟩ = some (.int .u64 3) ∧ w27.cell? ⟨w9.heap.size, 0, none⟩ = some (.int .i64 0) ∧ w27.cell? ⟨w9.heap.size, 1, none⟩ = some (.int .i64 133) ∧ w27.cell? ⟨w12.heap.size, 1, none⟩ = some (.int .i64 169) ∧ w27.cell? ⟨w21.heap.size, 1, none⟩ = some (.int .i64 134)) := Lib.hid (al9_S H27.out (by simp) (by simp) (by simp) (by simp) (by simp)); clear hk))))
  go_wp2_with fail
  go_ret
  exact ⟨rfl, H30.out.kept⟩
end Go.Proofs.Ythjkodjpopcjaaa
