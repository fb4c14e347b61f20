/- Layer 2 (glyph): GlyphNumbers, the walk. -/
import Derived.Test.YtonihjijienigaaDoorGlN
import Derived.Test.YtonihjijienigaaDoorGlQ
namespace Go.Proofs.YtonihjijienigaaDoor
open Go.RowKit Go.Shelf

def tN (n : Nat) : Tok := ⟨1, ⟨#[]⟩, n, 0, 0⟩
theorem printN (n : Nat) : printP [tN n] true = Lib.decDigits n := by simp [printP, tN, wrP]
theorem lex_dec (n : Nat) (h : n < 18446744073709551616) : lexP (Bq (Lib.decDigits n)) = ([tN n], 0, 0) := by
  have hl := decDigits_le n h
  rw [lexP_T _ (by rw [Bq_size]; omega), Bq_data]
  cases hd : Lib.decDigits n with
  | nil => exact absurd hd (decDigits_ne n)
  | cons c r =>
    have hm := decDigits_dg n
    rw [hd] at hm
    rw [T_run c r (hm c (by simp)) (fun d h => goesC_of (hm d (by simp [h]))), ← hd, numP_dec n h]
    rfl
theorem lex_zero (n : Nat) (h : n < 18446744073709551616) : lexP (Bq (48 :: Lib.decDigits n)) = ([], 0, 22) := by
  have hl := decDigits_le n h
  have hm := decDigits_dg n
  rw [lexP_T _ (by rw [Bq_size, List.length_cons]; omega), Bq_data]
  rw [T_run 48 _ ⟨by decide, by decide⟩ (fun d h => goesC_of (hm d h)), numP_zero _ (decDigits_ne n), if_pos (by decide)]
  rfl
theorem lex_letter (n : Nat) (h : n < 18446744073709551616) (c : UInt8) (hc : 97 ≤ c.toNat ∧ c.toNat ≤ 122) : lexP (Bq (Lib.decDigits n ++ [c])) = ([], 0, 22) := by
  have hl := decDigits_le n h
  rw [lexP_T _ (by rw [Bq_size, List.length_append, List.length_singleton]; omega), Bq_data]
  have hg : goesC c = true := by
    unfold goesC goesOnB beginsB letterB
    rw [decide_eq_true (by omega)]
    rfl
  cases hd : Lib.decDigits n with
  | nil => exact absurd hd (decDigits_ne n)
  | cons d r =>
    have hm := decDigits_dg n
    rw [hd] at hm
    rw [List.cons_append, T_run d (r ++ [c]) (hm d (by simp)) (fun e he => by
      rcases List.mem_append.1 he with he | he
      · exact goesC_of (hm e (by simp [he]))
      · rw [List.mem_singleton] at he; subst he; exact hg), numP_nodg _ c (by simp) (by unfold isDg; omega), if_pos (by decide)]
    rfl
def exG : ByteArray := ⟨#[49, 56, 52, 52, 54, 55, 52, 52, 48, 55, 51, 55, 48, 57, 53, 53, 49, 54, 49, 54]⟩
set_option maxRecDepth 100000 in
theorem exG_lex : lexP exG = ([], 0, 22) := by
  rw [lexP_eq _ (by decide)]
  kernel_rfl

theorem conv_one (w : World) (b : UInt8) (v : Int) (hv : v = (b.toNat : Int)) :
    (convert 46 9 (.slice (some ⟨w.heap.size, 0, none⟩) 1 1)).run Tryd.prog (w.alloc (.cells #[.int .u8 v] 5)) = .ok (.string (Bq [b])) (w.alloc (.cells #[.int .u8 v] 5)) := by
  have h := run_convert_bytes_back (P := Tryd.prog) (w.alloc (.cells #[.int .u8 v] 5)) 46 9 5 ⟨w.heap.size, 0, none⟩ 1 [b] Tryd.underlying46 Tryd.underlying5 Tryd.underlying9 (fun j hj => by
    have hj0 : j = 0 := by simpa using hj
    subst hj0
    rw [addr_off, World.cell?_alloc_new, hv]
    rfl)
  exact h
theorem Bq_append (a b : List UInt8) : Bq a ++ Bq b = Bq (a ++ b) := by
  unfold Bq
  rw [ByteArray.mk_append_mk]

set_option maxRecDepth 100000 in
set_option maxHeartbeats 4000000 in
theorem numbers_walk (n : Nat) (hn : n < 18446744073709551616) (x : Nat) (hx : x < 256) (w : World) (hL : LibV w) :
    Calls Tryd.prog 7 #[.int .u64 (n : Int), .int .u8 (x : Int)] w fun e w' => e = .returned (.bool true) ∧ Below w.heap.size w w' := by
  have HAL := Lib.hid (alive_calls w hL)
  have HL := Lib.hid hL
  clear hL
  go_enter Tryd.func7, Tryd.ntmps7
  go_wp2_with (first | (go_at_call 9; refine HAL.out.mono ?_; rintro e w1 ⟨rfl, hb1⟩) | (go_at_call 16; refine Hid.out ?_))
  refine Lib.hid ?_
  have hb1' := hb1
  have HB1 := Lib.hid (hb1.alloc hb1.size (.cells #[.int .i64 1, .string ⟨#[]⟩, .int .u64 n, .int .i64 0, .int .i64 0] 39))
  have htk : TokAt (w1.alloc (.cells #[.int .i64 1, .string ⟨#[]⟩, .int .u64 n, .int .i64 0, .int .i64 0] 39)) (some ⟨w1.heap.size, 0, none⟩) [tN n] := fun _ => by
    refine ⟨w1.heap.size, 0, rfl, by simp, fun k t hk j u hu => ?_⟩
    have hk0 : k = 0 := by
      have := (List.getElem?_eq_some_iff.1 hk).1
      simpa using this
    subst hk0
    have ht : tN n = t := by simpa using hk
    subst ht
    have := news_at w1 #[.int .i64 1, .string ⟨#[]⟩, .int .u64 n, .int .i64 0, .int .i64 0] 39 w1.heap.size rfl j u hu
    rw [addr_off] at this
    simpa using this
  have hpr := print_calls (some ⟨w1.heap.size, 0, none⟩) [tN n] 1 _ htk (by simp) (fun t ht => by rw [List.mem_singleton] at ht; subst ht; exact ⟨hn, Nat.zero_le _⟩) (HL.out.on HB1.out)
  rw [printN] at hpr
  refine hpr.mono ?_
  rintro e w2 ⟨rfl, hb2⟩
  have HB2 := Lib.hid (HB1.out.trans (Joins.below_le hb2 HB1.out.size))
  clear hpr htk hb1 hb1' hb2
  have hdl := decDigits_le n hn
  have HD := Lib.hid hdl
  clear hdl
  go_wp2_with (go_at_call 10; refine Hid.out ?_)
  refine Lib.hid ?_
  have h1 := lex_calls (Bq (Lib.decDigits n)) (by rw [Bq_size]; have := HD.out; omega) w2 (HL.out.on HB2.out)
  rw [lex_dec n hn] at h1
  refine h1.mono ?_
  rintro e w3 ⟨A3, c3, rfl, ho3, hb3⟩
  have HB3 := Lib.hid (HB2.out.trans (Joins.below_le hb3 HB2.out.size))
  have HO3 := Lib.hid ho3
  clear h1 hb3 ho3
  have hq1 : ¬ 9223372036854775807 < 1 + (Lib.decDigits n).length := by have := HD.out; omega
  go_wp2_with (go_at_call 10; refine Hid.out ?_)
  refine Lib.hid ?_
  clear hq1
  have e1 : (⟨#[48]⟩ ++ ⟨(Lib.decDigits n).toArray⟩ : ByteArray) = Bq (48 :: Lib.decDigits n) := by
    rw [show (⟨#[48]⟩ : ByteArray) = ⟨[48].toArray⟩ from rfl, ByteArray.mk_append_mk]
    rfl
  rw [e1]
  have h2 := lex_calls (Bq (48 :: Lib.decDigits n)) (by rw [Bq_size, List.length_cons]; have := HD.out; omega) w3 (HL.out.on HB3.out)
  rw [lex_zero n hn] at h2
  refine h2.mono ?_
  rintro e w4 ⟨A4, c4, rfl, ho4, hb4⟩
  have HB4 := Lib.hid (HB3.out.trans (Joins.below_le hb4 HB3.out.size))
  have HO4 := Lib.hid (own_below HO3.out hb4)
  clear h2 hb4 ho4 e1
  have hq2 : ¬ 9223372036854775807 < (Lib.decDigits n).length + 1 := by have := HD.out; omega
  obtain ⟨b, hbv⟩ : ∃ b : UInt8, b = UInt8.ofNat (97 + x % 26) := ⟨_, rfl⟩
  have hbn : b.toNat = 97 + x % 26 := by rw [hbv, UInt8.toNat_ofNat']; omega
  have hcv := conv_one w4 b (97 + (x : Int) % 26) (by omega)
  have HBN := Lib.hid hbn
  clear hbn hbv
  go_wp2_with (go_at_call 10; refine Hid.out ?_)
  refine Lib.hid ?_
  clear hq2 hcv
  have e1 : (⟨(Lib.decDigits n).toArray⟩ ++ Bq [b] : ByteArray) = Bq (Lib.decDigits n ++ [b]) := Bq_append _ _
  rw [e1]
  have HB5 := Lib.hid (HB4.out.alloc HB4.out.size (.cells #[.int .u8 (97 + (x : Int) % 26)] 5))
  have HO5 := Lib.hid (HO4.out.alloc (.cells #[.int .u8 (97 + (x : Int) % 26)] 5))
  have h3 := lex_calls (Bq (Lib.decDigits n ++ [b])) (by rw [Bq_size, List.length_append, List.length_singleton]; have := HD.out; omega) _ (HL.out.on HB5.out)
  rw [lex_letter n hn b (by have := HBN.out; omega)] at h3
  refine h3.mono ?_
  rintro e w6 ⟨A6, c6, rfl, ho6, hb6⟩
  have HB6 := Lib.hid (HB5.out.trans (Joins.below_le hb6 HB5.out.size))
  have HO6 := Lib.hid (own_below HO5.out hb6)
  clear h3 hb6 ho6 e1
  have h4 := lex_calls exG (by decide) w6 (HL.out.on HB6.out)
  rw [exG_lex] at h4
  have HG := Lib.hid h4
  clear h4
  go_wp2_with (go_at_call 10; refine HG.out.mono ?_; rintro e w7 ⟨A7, c7, rfl, ho7, hb7⟩; refine Hid.out ?_)
  refine Lib.hid ?_
  have HB7 := Lib.hid (HB6.out.trans (Joins.below_le hb7 HB6.out.size))
  have HO7 := Lib.hid (own_below HO6.out hb7)
  clear hb7 ho7
  obtain ⟨g, rfl, hc⟩ := own_some HO7.out (by simp)
  have hcl := HO7.out.cells (g := g) rfl
  have p0 : w7.cell? ⟨g, 0, none⟩ = some (.int .i64 1) := by have := hcl 0 _ rfl; rwa [addr_off] at this
  have p1 : w7.cell? ⟨g, 1, none⟩ = some (.string ⟨#[]⟩) := by have := hcl 1 _ rfl; rwa [addr_off] at this
  have p2 : w7.cell? ⟨g, 2, none⟩ = some (.int .u64 n) := by have := hcl 2 _ rfl; rwa [addr_off] at this
  clear hcl
  go_wp2_with fail
  go_ret
  exact ⟨rfl, HB7.out⟩
end Go.Proofs.YtonihjijienigaaDoor
