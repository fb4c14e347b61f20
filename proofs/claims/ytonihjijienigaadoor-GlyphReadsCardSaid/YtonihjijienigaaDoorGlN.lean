/- Layer 2 (glyph): the document's example. -/
import Derived.Test.YtonihjijienigaaDoorGlJ
import Derived.Test.YtonihjijienigaaDoorGlM
import Derived.Test.YtonihjijienigaaDoorGlP
namespace Go.Proofs.YtonihjijienigaaDoor
open Go.RowKit Go.Shelf

def ex1 : ByteArray := ⟨#[114, 49, 32, 226, 134, 144, 32, 114, 50, 32, 43, 32, 49, 48, 32, 35, 32, 115, 117, 109, 10]⟩
def ex2 : ByteArray := ⟨#[97, 32, 48, 49]⟩
def exL : List Tok := [⟨0, ⟨#[114, 49]⟩, 0, 0, 0⟩, ⟨2, ⟨#[226, 134, 144]⟩, 0, 3, 0⟩, ⟨0, ⟨#[114, 50]⟩, 0, 7, 0⟩, ⟨2, ⟨#[43]⟩, 0, 10, 0⟩, ⟨1, ⟨#[]⟩, 10, 12, 0⟩, ⟨3, ⟨#[]⟩, 0, 20, 0⟩]
set_option maxRecDepth 100000 in
theorem ex1_lex : lexP ex1 = (exL, 0, 0) := by
  rw [lexP_eq _ (by decide)]
  kernel_rfl
set_option maxRecDepth 100000 in
theorem ex2_lex : lexP ex2 = ([], 2, 22) := by
  rw [lexP_eq _ (by decide)]
  kernel_rfl
theorem exL_print : printP exL true = [114, 49, 32, 226, 134, 144, 32, 114, 50, 32, 43, 32, 49, 48, 10] := by
  have h : Lib.decDigits 10 = [49, 48] := by rw [Lib.decDigits_two (by omega) (by omega)]; rfl
  simp [exL, printP, wrP, h]
theorem exL_ok : ∀ t ∈ exL, TokOk 70000 t := by
  intro t ht
  simp only [exL, List.mem_cons, List.not_mem_nil, or_false] at ht
  rcases ht with rfl | rfl | rfl | rfl | rfl | rfl <;> exact ⟨by decide, by decide⟩
theorem exL_lines : (takeM 9 (linesP exL [])).length = 1 := by decide

set_option maxRecDepth 100000 in
set_option maxHeartbeats 4000000 in
theorem alive_calls (w : World) (hL : LibV w) :
    Calls Tryd.prog 9 #[] w fun e w' => e = .returned (.bool true) ∧ Below w.heap.size w w' := by
  have h1 := lex_calls ex1 (by decide) w hL
  have hle : exL.length = 6 := rfl
  rw [ex1_lex] at h1
  simp only [hle] at h1
  have H1 := Lib.hid h1
  have HL := Lib.hid hL
  clear h1 hL
  go_enter Tryd.func9, Tryd.ntmps9
  go_wp2_with (go_at_call 10; refine H1.out.mono ?_; rintro e w1 ⟨A1, c1, rfl, ho1, hb1⟩; refine Hid.out ?_)
  refine Lib.hid ?_
  have h2 := lex_calls ex2 (by decide) w1 (HL.out.on hb1)
  rw [ex2_lex] at h2
  have H2 := Lib.hid h2
  have HB1 := Lib.hid hb1
  have HO1 := Lib.hid ho1
  clear h2 hb1 ho1
  go_wp2_with (go_at_call 10; refine H2.out.mono ?_; rintro e w2 ⟨A2, c2, rfl, ho2, hb2⟩; refine Hid.out ?_)
  refine Lib.hid ?_
  have HO2 := Lib.hid (own_below HO1.out hb2)
  have HB2 := Lib.hid (HB1.out.trans (Joins.below_le hb2 HB1.out.size))
  clear ho2 hb2
  obtain ⟨g, rfl, hc⟩ := own_some HO2.out (by decide)
  have htk : TokAt w2 (some ⟨g, 0, none⟩) exL := TokAt.of_own HO2.out rfl
  have hcl := HO2.out.cells (g := g) rfl
  have p5 : w2.cell? ⟨g, 5, none⟩ = some (.int .i64 2) := by have := hcl 5 _ rfl; rwa [addr_off] at this
  have p6 : w2.cell? ⟨g, 6, none⟩ = some (.string ⟨#[226, 134, 144]⟩) := by have := hcl 6 _ rfl; rwa [addr_off] at this
  have p13 : w2.cell? ⟨g, 13, none⟩ = some (.int .i64 7) := by have := hcl 13 _ rfl; rwa [addr_off] at this
  have p22 : w2.cell? ⟨g, 22, none⟩ = some (.int .u64 10) := by have := hcl 22 _ rfl; rwa [addr_off] at this
  have p25 : w2.cell? ⟨g, 25, none⟩ = some (.int .i64 3) := by have := hcl 25 _ rfl; rwa [addr_off] at this
  have hpr := print_calls (some ⟨g, 0, none⟩) exL c1 w2 htk (by decide) exL_ok (HL.out.on HB2.out)
  rw [exL_print, hle] at hpr
  have HPR := Lib.hid hpr
  have HTK := Lib.hid htk
  clear hpr hcl htk hle
  go_wp2_with (first | (go_at_call 16; refine HPR.out.mono ?_; rintro e w3 ⟨rfl, hb3⟩; refine Hid.out ?_))
  refine Lib.hid ?_
  have hln := lawLines_calls (some ⟨g, 0, none⟩) exL c1 9 w3 (HTK.out.on hb3) (fun h => by cases h) (by decide)
  rw [show exL.length = 6 from rfl] at hln
  have HLN := Lib.hid hln
  have HB3 := Lib.hid (HB2.out.trans (Joins.below_le hb3 HB2.out.size))
  clear hln hb3
  go_wp2_with (first | (go_at_call 15; refine HLN.out.mono ?_; rintro e w4 ⟨ys, A4, c4, rfl, hys, _, _, hb4⟩; refine Hid.out ?_))
  refine Lib.hid ?_
  have hy1 : ys.length = 1 := by rw [← List.length_map (f := Ln.l), hys]; exact exL_lines
  clear hys
  go_wp2_with fail
  go_ret
  exact ⟨rfl, HB3.out.trans (Joins.below_le hb4 HB3.out.size)⟩
end Go.Proofs.YtonihjijienigaaDoor
