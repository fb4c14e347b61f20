/- Law 10's alive. -/
import Derived.Test.YthjkodjpopcjaaaPoK
namespace Go.Proofs.Ythjkodjpopcjaaa
open Go.RowKit Go.Maps
attribute [local go_sem ↓] loadMap_eq stMap_eq

def cB : CfgD := ⟨2, 3, 4, 50, 5, 99⟩
theorem cB_ok : cB.Ok := ⟨by decide, by decide, by decide, by decide, by decide, by decide, by decide, by decide, by decide, by decide⟩
theorem sampleB (w : World) : Calls Try.prog 64 #[] w fun e w' => e = .returned (.agg (cfgA cB)) ∧ Kept (fun _ => False) w w' := sample10_calls w
def E0 : PoD × Nat := readG cB (p0 5) ([0, 2, 1, 2, 0, 1].map outO) 0
def E1 : PoD × List (Int × Int) := settleD cB 100 E0.1 []
def E2 : PoD × List (Int × Int) := ({ E1.1 with nt := (takeD cB 100 E1.1.nt E1.2 0).1 }, (takeD cB 100 E1.1.nt E1.2 0).2)
def E3 : PoD × List (Int × Int) := ({ E2.1 with nl := (giveD cB 100 E2.1.nl E2.2 2).1 }, (giveD cB 100 E2.1.nl E2.2 2).2)
def E4 : List (Int × Int) := endD cB 100 E3.1 E3.2
def E7 : PoD × Nat := readG cB (p0 4) ([0, 2, 1].map outO) 0
theorem E0_2 : E0.2 = 6 := by decide +kernel
theorem E0_st : E0.1.st = 1 := by decide +kernel
theorem E0_lm : E0.1.lm.length = 2 := by decide +kernel
theorem E0_nt : 0 ≤ E0.1.nt ∧ E0.1.nt ≤ cB.b := by decide +kernel
theorem E0_el : ∀ a ∈ E0.1.lm, 0 ≤ a ∧ a ≤ 18446744073709551615 := by decide +kernel
theorem E1_nt : E1.1.nt = 2 := by decide +kernel
theorem E1_nl : E1.1.nl = 1 := by decide +kernel
theorem E1_top : E1.1.top cB = (cB.at_ 13 1 0, true) := by decide +kernel
theorem E2_nl : 0 ≤ E2.1.nl ∧ E2.1.nl ≤ 100000 := by decide +kernel
theorem E3_nt : E3.1.nt = 1 := by decide +kernel
theorem E3_nl : E3.1.nl = 2 := by decide +kernel
theorem E4_a : getV E4 (cB.at_ 11 0 0) = .tuple #[.int .u64 1, .bool true] := by
  have h1 : (look (ents E4) (cB.at_ 11 0 0)) = some 1 := by decide +kernel
  unfold getV; rw [h1]; rfl
theorem E4_b : getV E4 (cB.at_ 15 1 0) = .tuple #[.int .u64 2, .bool true] := by
  have h1 : (look (ents E4) (cB.at_ 15 1 0)) = some 2 := by decide +kernel
  unfold getV; rw [h1]; rfl
theorem E7_st : E7.1.st = 2 := by decide +kernel
theorem E7_ask : E7.1.ask cB = (⟨0, 0, 0, 0, 0, 0⟩, false) := by decide +kernel
theorem PX.upk {G : Nat → Prop} {R : World → Prop} {w0 w : World} {B mb : Nat} {lv : Value} {c : CfgD} {p : PoD} {n b : Nat} {r : Int} {ps : List (Int × Int)} {k k' : Nat} (h : PX G R w0 w B mb lv c p n b r ps k) (hk : k ≤ k') : PX G R w0 w B mb lv c p n b r ps k' := by
  obtain ⟨j, rfl⟩ := Nat.exists_eq_add_of_le hk
  exact h.morek j
theorem out_bd (vs : List Int) (h : ∀ v ∈ vs, 0 ≤ v ∧ v ≤ 18446744073709551615) : ∀ o ∈ vs.map outO, 0 ≤ o.val ∧ o.val ≤ 18446744073709551615 := fun o ho => by
  obtain ⟨v, hv, rfl⟩ := List.mem_map.1 ho
  exact h v hv
theorem RL.one {w : World} {g : Nat} {t : TypeId} {cs : Array Value} (h : Blk w g t cs) : RL [(g, t, cs)] w := fun e he => by
  rw [List.mem_singleton] at he
  subst he
  exact h
theorem old_of {L : BlkL} {w w4 : World} {B mb : Nat} {lv : Value} (hk : Kept (fun _ => False) w w4) (hL : RL L w4) (ho : ∀ x, PF B mb lv x → w4.heap.size ≤ x) : ∀ x, PF B mb lv x → w.heap.size ≤ x ∧ ¬ GL L x := fun x hx =>
  ⟨Nat.le_trans hk.size (ho x hx), fun g => by have := hL.lt g; have := ho x hx; omega⟩
theorem run_mark_eql (a b : Int) (W : World) : (binOp .eql 83 (.agg #[.int .i64 a, .int .i64 b]) (.agg #[.int .i64 a, .int .i64 b])).run Try.prog W = .ok (.bool true) W := by simp [go_sem]
theorem cellsA {w : World} {A : Option Addr} {cp : Nat} {vs : List Int} (n : Nat) (hv : vs.length = n) (hn : n ≤ 1000) (hs : SlAt w A 1 (vs.map fun x => [.int .u64 x])) :
    Calls Try.prog 47 #[.slice A n cp] w fun e w' => ∃ A' c', e = .returned (.slice A' n c') ∧ SlAt w' A' 3 ((vs.map outO).map OutD.cells) ∧ Kept (fun _ => False) w w' :=
  (cells_calls hv hn hs).mono fun _ _ ⟨v, h1, h2, _, h4⟩ => by
    obtain ⟨A', c', rfl, hS⟩ := own_outs h2
    rw [List.length_map, hv] at h1
    exact ⟨A', c', h1, hS, h4⟩
set_option maxRecDepth 100000 in
set_option maxHeartbeats 8000000 in
theorem alive10_calls (w : World) : Calls Try.prog 18 #[] w fun e w' => e = .returned (.bool true) ∧ Kept (fun _ => False) w w' := by
  have hc := Lib.hid cB_ok.bd
  have hm1 := run_mark_eql 2 1
  have hm2 := run_mark_eql 1 2
  have hxx : (cB.at_ 13 1 0 == cB.at_ 13 1 0) = true := by simp
  go_enter Try.func18, Try.ntmps18
  go_wp2_with (first
    | (go_at_call 64; ((with_reducible refine (sampleB _).mono ?_); rintro e w1 ⟨rfl, hk1⟩; have HK1 := Lib.hid hk1; clear hk1))
    | (go_at_call 19; ((with_reducible refine (ofA cB cB_ok _).mono ?_); rintro e w2 ⟨rfl, hk2⟩; have HK2 := Lib.hid (HK1.out.trans hk2); clear hk2; obtain ⟨w3, hst3, hB3, hK3⟩ := stMap10 cB w2; have HB3 := Lib.hid hB3; have HK3 := Lib.hid (HK2.out.trans hK3); clear hB3 hK3)))
  have HSL : Hid (SlAt (World.drew (w3.alloc (.cells #[.int .u64 0, .int .u64 2, .int .u64 1, .int .u64 2, .int .u64 0, .int .u64 1] 22))) (some ⟨w3.heap.size, 0, none⟩) 1 (([0, 2, 1, 2, 0, 1] : List Int).map fun x => [.int .u64 x])) := Lib.hid ((SlAt.news (vs := [0, 2, 1, 2, 0, 1]) rfl).kept ((Kept.refl _ _).drew))
  have S3 := Lib.hid (loadMap_arr HB3.out.drew rfl)
  have S3a := Lib.hid (loadMap_arr (HB3.out.alloc (.cells #[.int .u64 0, .int .u64 2, .int .u64 1, .int .u64 2, .int .u64 0, .int .u64 1] 22)).drew rfl)
  have HK3a : Hid (Kept (fun _ => False) w (World.drew (w3.alloc (.cells #[.int .u64 0, .int .u64 2, .int .u64 1, .int .u64 2, .int .u64 0, .int .u64 1] 22)))) := Lib.hid ((HK3.out.alloc _).drew)
  clear hst3
  go_region_held3 (fun w' => (loadMap ⟨w2.heap.size, 0, none⟩).run Try.prog w' = .ok (.agg (mapA cB)) w')
    (with_reducible (first | exact S5.out | exact S4.out | exact S3a.out | exact S3.out))
    ((first
      | (go_at_call 47; ((with_reducible refine (cellsA 6 rfl (by decide) HSL.out).mono ?_); rintro e w4 ⟨A4, c4, rfl, hs4, hk4⟩; (have HB4 := Lib.hid (hk4.blk ((HB3.out.alloc (.cells #[.int .u64 0, .int .u64 2, .int .u64 1, .int .u64 2, .int .u64 0, .int .u64 1] 22)).drew) (fun h => h)); have S4 := Lib.hid (loadMap_arr HB4.out rfl); have HS4 := Lib.hid hs4; have HK4 := Lib.hid (HK3a.out.trans hk4); clear hs4 hk4)))
      | (go_at_call 25; ((with_reducible refine (read_calls (m := 6) cB hc.out 5 (L := ([0, 2, 1, 2, 0, 1] : List Int).map outO) rfl (by decide) HS4.out (out_bd _ (by decide))).mono ?_); rintro e w5 ⟨B, mb, n, lv, rfl, h5, hn5, hf5, hk5, ho5⟩; rw [show (readG cB (p0 5) (([0, 2, 1, 2, 0, 1] : List Int).map outO) 0).2 = 6 from E0_2]; (have H5 : Hid (PoS w5 B mb lv cB E0.1 n) := Lib.hid h5; have HB5 := Lib.hid (hk5.blk HB4.out (fun h => h)); have S5 := Lib.hid (loadMap_arr HB5.out rfl); have HK5 := Lib.hid (HK4.out.trans hk5); have HO5 := Lib.hid (old_of HK4.out (RL.one HB4.out) ho5); clear h5 hn5 hf5 hk5 ho5)))))
  have hl5 := S5.out
  go_wp2_with (first
    | (go_at_call 26; ((with_reducible refine (PY.make H5.out HK5.out HO5.out (RL.one HB5.out) 100).mono ?_); rintro e w6 ⟨b, rfl, h6⟩; have H6 : Hid (PY [(w2.heap.size, 31, mapA cB)] w w6 B mb lv cB E0.1 n b 100 [] 0) := Lib.hid h6; clear h6 hl5))
    | (go_at_call 23; ((with_reducible refine (statusP_calls H6.out.pool).mono ?_); rintro e w7 ⟨rfl, rfl⟩; rw [E0_st]))
    | (go_at_call 28; ((with_reducible refine (H6.out.settle hc.out E0_nt (by rw [E0_lm]; decide) E0_el (by decide)).mono ?_); rintro e w8 ⟨rfl, h8⟩; have H8 : Hid (PY [(w2.heap.size, 31, mapA cB)] w w8 B mb lv cB E1.1 n b 100 E1.2 100) := Lib.hid (h8.upk (by rw [E0_lm]; decide)); clear h8))
    | (go_at_call 30; ((with_reducible refine (markP_calls H8.out.pool).mono ?_); rw [E1_nt, E1_nl]; rintro e w9 ⟨rfl, hk9⟩; have H9 := Lib.hid (PY.more (H8.out.keep hk9) 83 #[.int .i64 2, .int .i64 1]); clear hk9))
    | (go_at_call 39; ((with_reducible refine (topP_calls H9.out.pool hc.out (by rw [E1_nt]; decide)).mono ?_); rw [E1_top]; rintro e w10 ⟨rfl, hk⟩; have H10 := Lib.hid (H9.out.keep hk); clear hk))
    | (go_at_call 32; ((with_reducible refine (H10.out.take hc.out 0 (by rw [E1_nt]; decide) (by decide)).mono ?_); rintro e w11 ⟨rfl, h⟩; have H11 : Hid (PX _ _ w w11 B mb lv cB E2.1 n b 100 E2.2 109) := Lib.hid h; clear h))
    | (go_at_call 34; ((with_reducible refine (H11.out.give hc.out 2 E2_nl (by decide)).mono ?_); rintro e w12 ⟨rfl, h⟩; have H12 : Hid (PX _ _ w w12 B mb lv cB E3.1 n b 100 E3.2 111) := Lib.hid h; clear h))
    | (go_at_call 30; ((with_reducible refine (markP_calls H12.out.pool).mono ?_); rw [E3_nt, E3_nl]; rintro e w13 ⟨rfl, hk⟩; have H13 := Lib.hid (PY.more (H12.out.keep hk) 83 #[.int .i64 1, .int .i64 2]); clear hk))
    | (go_at_call 44; ((with_reducible refine (PX.fin H13.out hc.out (by rw [E3_nt]; decide) (by rw [E3_nl]; decide) (by decide)).mono ?_); rintro e w14 ⟨rfl, h⟩; have H14 : Hid (PX _ _ w w14 B mb lv cB E3.1 n b 100 E4 113) := Lib.hid h; have hl14 := loadMap_arr (PY.blk (x := (w2.heap.size, 31, mapA cB)) H14.out (by simp)) rfl; clear h))
    | (go_at_call 49; ((with_reducible refine (atK_calls cB hc.out 11 0 0 _).mono ?_); rintro e w15 ⟨rfl, hk⟩; have H15 := Lib.hid (H14.out.keep hk); clear hk hl14))
    | (go_at_call 48; ((with_reducible refine (H15.out.get _ (at_i64 hc.out _ _ _)).mono ?_); rw [E4_a]; rintro e w16 ⟨rfl, rfl⟩; have hl15 := loadMap_arr (PY.blk (x := (w2.heap.size, 31, mapA cB)) H15.out (by simp)) rfl))
    | (go_at_call 49; ((with_reducible refine (atK_calls cB hc.out 15 1 0 _).mono ?_); rintro e w17 ⟨rfl, hk⟩; have H17 := Lib.hid (H15.out.keep hk); clear hk hl15))
    | (go_at_call 48; ((with_reducible refine (H17.out.get _ (at_i64 hc.out _ _ _)).mono ?_); rw [E4_b]; rintro e w18 ⟨rfl, rfl⟩)))
  have HSL2 : Hid (SlAt (World.drew (w17.alloc (.cells #[.int .u64 0, .int .u64 2, .int .u64 1] 22))) (some ⟨w17.heap.size, 0, none⟩) 1 (([0, 2, 1] : List Int).map fun x => [.int .u64 x])) := Lib.hid ((SlAt.news (vs := [0, 2, 1]) rfl).kept ((Kept.refl _ _).drew))
  have T0 := Lib.hid (loadMap_arr (PY.blk (x := (w2.heap.size, 31, mapA cB)) H17.out (by simp)).drew rfl)
  have HA := Lib.hid ((H17.out.keep ((Kept.refl _ _).alloc (.cells #[.int .u64 0, .int .u64 2, .int .u64 1] 22))).keep ((Kept.refl _ _).drew))
  have T1 := Lib.hid (loadMap_arr (PY.blk (x := (w2.heap.size, 31, mapA cB)) HA.out (by simp)) rfl)
  go_region_held3 (fun w' => (loadMap ⟨w2.heap.size, 0, none⟩).run Try.prog w' = .ok (.agg (mapA cB)) w')
    (with_reducible (first | exact T3.out | exact T2.out | exact T1.out | exact T0.out))
    ((first
      | (go_at_call 47; ((with_reducible refine (cellsA 3 rfl (by decide) HSL2.out).mono ?_); rintro e w19 ⟨A5, c5, rfl, hs4, hk4⟩; (have H19 := Lib.hid (HA.out.keep hk4); have T2 := Lib.hid (loadMap_arr (PY.blk (x := (w2.heap.size, 31, mapA cB)) H19.out (by simp)) rfl); have HS5 := Lib.hid hs4; clear hs4 hk4)))
      | (go_at_call 25; ((with_reducible refine (read_calls (m := 3) cB hc.out 4 (L := ([0, 2, 1] : List Int).map outO) rfl (by decide) HS5.out (out_bd _ (by decide))).mono ?_); rintro e w20 ⟨B2, mb2, n2, lv2, rfl, h5, hn5, hf5, hk5, ho5⟩; (have HQ : Hid (PoS w20 B2 mb2 lv2 cB E7.1 n2) := Lib.hid h5; have H20 := Lib.hid (H19.out.keep hk5); have T3 := Lib.hid (loadMap_arr (PY.blk (x := (w2.heap.size, 31, mapA cB)) H20.out (by simp)) rfl); clear h5 hn5 hf5 hk5 ho5)))))
  go_wp2_with (first
    | (go_at_call 21; ((with_reducible refine (askP10 HQ.out hc.out (fun h => absurd (E7_st.symm.trans h) (by decide)) E7_ask).mono ?_); rintro e w21 ⟨rfl, hk⟩; have K21 := (hk.alloc (.cells #[.int .i64 0, .int .i64 0, .int .u64 0, .int .u64 0, .int .u64 0, .int .u64 0] 43)); have H22 := Lib.hid (H20.out.keep K21); have HQ2 := Lib.hid (HQ.out.keep K21); have hl22 := loadMap_arr (PY.blk (x := (w2.heap.size, 31, mapA cB)) H22.out (by simp)) rfl; have a0 := Blk.cell (PY.blk (x := (w9.heap.size, 83, #[.int .i64 2, .int .i64 1])) H22.out (by simp)) 0; have a1 := Blk.cell (PY.blk (x := (w9.heap.size, 83, #[.int .i64 2, .int .i64 1])) H22.out (by simp)) 1; clear hk K21))
    | (go_at_call 49; ((with_reducible refine (atK_calls cB hc.out 13 1 0 _).mono ?_); rintro e w23 ⟨rfl, hk⟩; have H23 := Lib.hid (H22.out.keep hk); have HQ3 := Lib.hid (HQ2.out.keep hk); have b0 := Blk.cell (PY.blk (x := (w13.heap.size, 83, #[.int .i64 1, .int .i64 2])) H23.out (by simp)) 0; have b1 := Blk.cell (PY.blk (x := (w13.heap.size, 83, #[.int .i64 1, .int .i64 2])) H23.out (by simp)) 1; clear hk hl22 a0 a1))
    | (go_at_call 23; ((with_reducible refine (statusP_calls HQ3.out).mono ?_); rintro e w24 ⟨rfl, rfl⟩; rw [E7_st])))
  go_ret
  exact ⟨rfl, H23.out.kept⟩
end Go.Proofs.Ythjkodjpopcjaaa
