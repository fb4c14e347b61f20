/- Layer 2 (glyph): GlyphBack, the walk. -/
import Derived.Test.YtonihjijienigaaDoorGlN
import Derived.Test.YtonihjijienigaaDoorGlU
import Derived.Test.YtonihjijienigaaDoorGlS
namespace Go.Proofs.YtonihjijienigaaDoor
open Go.RowKit Go.Shelf

theorem toList_eq (a : ByteArray) : (a.toList == a.toList) = true := by simp

set_option maxRecDepth 100000 in
set_option maxHeartbeats 4000000 in
theorem back_walk (s : ByteArray) (_ : s.size ≤ maxLen) (w : World) (hL : LibV w) :
    Calls Tryd.prog 5 #[.string s] w fun e w' => e = .returned (.bool true) ∧ Below w.heap.size w w' := by
  have HAL := Lib.hid (alive_calls w hL)
  have HL := Lib.hid hL
  clear hL
  by_cases hs : 600 < s.size
  · have hs' : (600 : Int) < s.size := by omega
    go_enter Tryd.func5, Tryd.ntmps5
    go_wp2_with (go_at_call 9; refine HAL.out.mono ?_; rintro e w1 ⟨rfl, hb1⟩)
    go_ret
    exact ⟨rfl, hb1⟩
  · have hs' : ¬ (600 : Int) < s.size := by omega
    obtain ⟨ts, at_, er, hlx⟩ : ∃ ts at_ er, lexP s = (ts, at_, er) := ⟨_, _, _, rfl⟩
    have hlT := lexP_T s (by omega)
    rw [hlx] at hlT
    have hcl := T_clean _ s.data.toList 0 0 (Nat.lt_succ_self _)
    have hgd := T_goods _ s.data.toList 0 0 (Nat.lt_succ_self _)
    rw [← hlT] at hcl hgd
    have hcl : (er = 0 → at_ = 0) ∧ (er ≠ 0 → ts = []) := hcl
    have hgd : (∀ t ∈ ts, ∃ p, Good t p) ∧ ∀ fresh, (printP ts fresh).length ≤ 2 * s.data.toList.length := hgd
    rw [Array.length_toList] at hgd
    have hgs : ∀ fresh, (printP ts fresh).length ≤ 1200 := fun fr => by have h1 := hgd.2 fr; have h2 : s.data.size = s.size := rfl; omega
    have HG := Lib.hid hgd.1
    have HGS := Lib.hid hgs
    have HC := Lib.hid hcl
    have HLX := Lib.hid hlx
    have HS := Lib.hid hs
    have hlen : ts.length ≤ 600 := by
      have h1 := T_count _ s.data.toList 0 0 (Nat.lt_succ_self _)
      rw [← hlT, Array.length_toList] at h1
      have h2 : s.data.size = s.size := rfl
      have h3 : ts.length ≤ s.data.size := h1
      omega
    have HLEN := Lib.hid hlen
    clear hlT hcl hgd hgs hlx hlen hs
    go_enter Tryd.func5, Tryd.ntmps5
    go_wp2_with (go_at_call 9; refine HAL.out.mono ?_; rintro e w1 ⟨rfl, hb1⟩; refine Hid.out ?_)
    refine Lib.hid ?_
    have h1 := lex_calls s (by have := HS.out; omega) w1 (HL.out.on hb1)
    rw [HLX.out] at h1
    have H1 := Lib.hid h1
    have HB1 := Lib.hid hb1
    clear h1 hb1
    go_wp2_with (go_at_call 10; refine H1.out.mono ?_; rintro e w2 ⟨A2, c2, rfl, ho2, hb2⟩; refine Hid.out ?_)
    refine Lib.hid ?_
    have HB2 := Lib.hid (HB1.out.trans (Joins.below_le hb2 HB1.out.size))
    have HO2 := Lib.hid ho2
    clear hb2 ho2
    by_cases he : er = 0
    · subst he
      have hat : at_ = 0 := HC.out.1 rfl
      subst hat
      have htk := TokAt.of_own HO2.out rfl
      have hok : ∀ t ∈ ts, TokOk 70000 t := fun t ht => by obtain ⟨p, hp⟩ := HG.out t ht; exact ⟨hp.num, hp.text⟩
      have h2 := print_calls A2 ts c2 w2 htk (by have := HLEN.out; omega) hok (HL.out.on HB2.out)
      obtain ⟨L, hLe⟩ : ∃ L, ts.length = L := ⟨_, rfl⟩
      rw [hLe] at h2 ⊢
      have H2 := Lib.hid h2
      have HLE := Lib.hid hLe
      have HOK := Lib.hid hok
      have HTK := Lib.hid htk
      clear h2 hLe hok htk
      go_wp2_with (go_at_call 16; refine H2.out.mono ?_; rintro e w3 ⟨rfl, hb3⟩; refine Hid.out ?_)
      refine Lib.hid ?_
      obtain ⟨P, hP⟩ : ∃ P, printP ts true = P := ⟨_, rfl⟩
      rw [hP]
      have hPs : P.length ≤ 1200 := hP ▸ HGS.out true
      obtain ⟨us, at2, er2, hlx2⟩ : ∃ us at2 er2, lexP (Bq P) = (us, at2, er2) := ⟨_, _, _, rfl⟩
      have hT2 := lexP_T (Bq P) (by rw [Bq_size]; omega)
      rw [hlx2, Bq_data] at hT2
      have hpr := T_print ts true 0 0 HG.out
      rw [hP, ← hT2] at hpr
      have her2 : er2 = 0 := hpr.1
      have hcore : us.map Tok.core = ts.map Tok.core := hpr.2
      have hcl2 := T_clean _ P 0 0 (Nat.lt_succ_self _)
      rw [← hT2] at hcl2
      have hat2 : at2 = 0 := hcl2.1 her2
      subst her2 hat2
      have hul : us.length = L := by have := congrArg List.length hcore; simp only [List.length_map] at this; rw [this, HLE.out]
      have hpp : printP us true = P := by rw [printP_core _ _ true hcore, hP]
      have hgd2 := T_goods _ P 0 0 (Nat.lt_succ_self _)
      rw [← hT2] at hgd2
      have hok2 : ∀ t ∈ us, TokOk 70000 t := fun t ht => by obtain ⟨p, hp⟩ := hgd2.1 t ht; exact ⟨hp.num, hp.text⟩
      have HB3 := Lib.hid (HB2.out.trans (Joins.below_le hb3 HB2.out.size))
      have HO3 := Lib.hid (own_below HO2.out hb3)
      have h3 := lex_calls (Bq P) (by rw [Bq_size]; omega) w3 (HL.out.on HB3.out)
      rw [hlx2] at h3
      have hul' : us.length = L := hul
      simp only [hul'] at h3
      have H3 := Lib.hid h3
      have HCO := Lib.hid hcore
      have HUL := Lib.hid hul
      have HPP := Lib.hid hpp
      have HOK2 := Lib.hid hok2
      have HPS := Lib.hid hPs
      clear h3 hcore hul hul' hpp hok2 hgd2 hcl2 hpr hT2 hlx2 hPs hP hb3 H1 H2 HLX
      go_wp2_with (go_at_call 10; refine Hid.out ?_)
      refine Lib.hid ?_
      refine H3.out.mono ?_
      rintro e w4 ⟨A4, c4, rfl, ho4, hb4⟩
      have HB4 := Lib.hid (HB3.out.trans (Joins.below_le hb4 HB3.out.size))
      have HO4 := Lib.hid (show w4.ownsRow w.heap.size 39 5 (.slice A4 us.length c4) us.length (flatT us) by rw [HUL.out]; exact own_base ho4 HB3.out.size)
      have HO4' := Lib.hid (own_below HO3.out hb4)
      clear ho4 hb4 H3
      have h5 := as_calls A4 us c4 w4 (TokAt.of_own HO4.out rfl) (by rw [HUL.out]; have := HLE.out; have := HLEN.out; omega)
      rw [HUL.out] at h5
      have H5 := Lib.hid h5
      clear h5
      have hl6 : L ≤ 600 := by have := HLE.out; have := HLEN.out; omega
      go_wp2_with (go_at_call 13; refine H5.out.mono ?_; rintro e w5 ⟨A5, c5, rfl, ho5, hb5⟩; refine Hid.out ?_)
      refine Lib.hid ?_
      have HB5 := Lib.hid (HB4.out.trans (Joins.below_le hb5 HB4.out.size))
      have HT5 := Lib.hid (TokAt.of_own ho5 HUL.out)
      have HR5 := Lib.hid (own_below HO4'.out hb5)
      have HR5' := Lib.hid (own_below HO4.out hb5)
      have h6 := as_calls A2 ts c2 w5 (TokAt.of_own HR5.out rfl) (by have := HLEN.out; omega)
      rw [HLE.out] at h6
      have H6 := Lib.hid h6
      clear h6 ho5 hb5 H5
      go_wp2_with (go_at_call 13; refine H6.out.mono ?_; rintro e w6 ⟨A6, c6, rfl, ho6, hb6⟩; refine Hid.out ?_)
      refine Lib.hid ?_
      have HB6 := Lib.hid (HB5.out.trans (Joins.below_le hb6 HB5.out.size))
      have HT6 := Lib.hid (TokAt.of_own ho6 HLE.out)
      have HT6' := Lib.hid (HT5.out.on hb6)
      have HR6' := Lib.hid (own_below HR5'.out hb6)
      have h7 := same_calls A5 A6 us ts c5 c6 w6 HT6'.out HT6.out HCO.out (by rw [HUL.out]; omega)
      rw [HUL.out, HLE.out] at h7
      have H7 := Lib.hid h7
      clear h7 ho6 hb6 H6
      go_wp2_with (go_at_call 18; refine H7.out.mono ?_; rintro e w7 ⟨rfl, hb7⟩; refine Hid.out ?_)
      refine Lib.hid ?_
      have HB7 := Lib.hid (HB6.out.trans (Joins.below_le hb7 HB6.out.size))
      have h8 := print_calls A4 us c4 w7 (TokAt.of_own (own_below HR6'.out hb7) rfl) (by rw [HUL.out]; omega) HOK2.out (HL.out.on HB7.out)
      rw [HPP.out, HUL.out] at h8
      have H8 := Lib.hid h8
      clear h8 hb7 H7
      have hpe : ((⟨P.toArray⟩ : ByteArray).toList == (⟨P.toArray⟩ : ByteArray).toList) = true := toList_eq _
      go_wp2_with (go_at_call 16; refine H8.out.mono ?_; rintro e w8 ⟨rfl, hb8⟩)
      go_ret
      exact ⟨rfl, HB7.out.trans (Joins.below_le hb8 HB7.out.size)⟩
    · have hnil : ts = [] := HC.out.2 he
      subst hnil
      have n0 : (er == 0) = false := by simpa using he
      have n1 : (er != 0) = true := by simpa using he
      go_wp2_with fail
      go_ret
      exact ⟨rfl, HB2.out⟩
end Go.Proofs.YtonihjijienigaaDoor
