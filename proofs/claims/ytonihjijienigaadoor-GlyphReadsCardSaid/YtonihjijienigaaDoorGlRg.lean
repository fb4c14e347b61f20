/- Layer 2 (glyph): GlyphReads, the walk. -/
import Derived.Test.YtonihjijienigaaDoorGlN
import Derived.Test.YtonihjijienigaaDoorGlRe
import Derived.Test.YtonihjijienigaaDoorGlRf
import Derived.Deep.RegionHeld3
namespace Go.Proofs.YtonihjijienigaaDoor
open Go.RowKit Go.Shelf

def and7 (x : Int) : Int := bits BinOp.and IntKind.i64 x 7
theorem and7_bound (x : Int) : ∃ q : Nat, and7 x = (q : Int) ∧ q ≤ 7 := by
  have h : (BitVec.ofInt 64 x &&& BitVec.ofInt 64 7).toNat ≤ 7 := by
    rw [BitVec.toNat_and]
    exact Nat.and_le_right
  refine ⟨(BitVec.ofInt 64 x &&& BitVec.ofInt 64 7).toNat, ?_, h⟩
  have e : and7 x = IntKind.i64.wrap ((BitVec.ofInt 64 x &&& BitVec.ofInt 64 7).toNat : Int) := rfl
  rw [e, IntKind.wrap_i64]
  omega
theorem takeM_all (L : List (List Tok)) (h : L.length ≤ 1000) : takeM 1000 L = L := by
  unfold takeM
  rw [if_neg (by decide)]
  exact List.take_of_length_le h
theorem takeM_len (q : Nat) (L : List (List Tok)) : (takeM (q : Int) L).length = min q L.length := by
  unfold takeM
  by_cases h : q = 0
  · subst h; simp
  · rw [if_neg (by omega), List.length_take]
    rfl
theorem own_bare {w : World} {base size n c : Nat} {A : Option Addr} {e : TypeId} {xs : List Value} (h : w.ownsRow base e size (.slice A n c) n xs) {l : List Tok} (hl : l.length = n) : A = none → l = [] ∧ c = 0 := fun hA => by
  subst hA
  obtain ⟨h1, h2⟩ := own_nil h
  exact ⟨List.length_eq_zero_iff.1 (by omega), h2⟩

theorem linesP_each (l : List Tok) : ∀ (cur x : List Tok), x ∈ linesP l cur → x.length ≤ l.length + cur.length := by
  induction l with
  | nil =>
    intro cur x hx
    unfold linesP at hx
    split at hx
    · simp at hx
    · obtain rfl := List.mem_singleton.1 hx
      simp
  | cons t l ih =>
    intro cur x hx
    unfold linesP at hx
    split at hx
    · rcases List.mem_cons.1 hx with rfl | hx
      · simp only [List.length_cons]; omega
      · have := ih [] x hx
        simp only [List.length_nil, List.length_cons] at this ⊢
        omega
    · have := ih (cur ++ [t]) x hx
      simp only [List.length_append, List.length_cons, List.length_nil] at this ⊢
      omega
theorem slice_cells {w : World} {base n c : Nat} {A : Option Addr} {e : TypeId} {ys : List Ln} (h : w.ownsRow base e 1 (.slice A n c) n (ys.map lnV)) {k : Nat} {y : Ln} (hy : ys[k]? = some y) (hk : k < n) :
    ∃ g, A = some ⟨g, 0, none⟩ ∧ g < w.heap.size ∧ w.cell? ⟨g, k, none⟩ = some (.slice y.A y.l.length y.c) := by
  obtain ⟨g, rfl, _⟩ := own_some h (by omega)
  refine ⟨g, rfl, (h.lt g rfl).2, ?_⟩
  have := h.cells (g := g) rfl k (lnV y) (by rw [List.getElem?_map, hy]; rfl)
  rwa [addr_add] at this
theorem same_ln {ys zs : List Ln} {L : List (List Tok)} (h1 : ys.map Ln.l = L) (h2 : zs.map Ln.l = L) {k : Nat} {y z : Ln} (hy : ys[k]? = some y) (hz : zs[k]? = some z) : y.l = z.l := by
  have a1 : L[k]? = some y.l := by rw [← h1, List.getElem?_map, hy]; rfl
  have a2 : L[k]? = some z.l := by rw [← h2, List.getElem?_map, hz]; rfl
  rw [a1] at a2
  injection a2

set_option maxRecDepth 100000 in
set_option maxHeartbeats 1000000 in
theorem reads_walk (s : ByteArray) (_ : s.size ≤ maxLen) (most : Int) (w : World) (hL : LibV w) (hU : Utf w) :
    Calls Tryd.prog 3 #[.string s, .int .i64 most] w fun e w' => e = .returned (.bool true) ∧ Below w.heap.size w w' := by
  have HAL := Lib.hid (alive_calls w hL)
  have HL := Lib.hid hL
  have HU := Lib.hid hU
  clear hL hU
  by_cases hs : 600 < s.size
  · have hs' : (600 : Int) < s.size := by omega
    go_enter Tryd.func3, Tryd.ntmps3
    go_wp2_with (go_at_call 9; refine HAL.out.mono ?_; rintro e w1 ⟨rfl, hb1⟩)
    go_ret
    exact ⟨rfl, hb1⟩
  · have hs' : ¬ (600 : Int) < s.size := by omega
    obtain ⟨ts, at_, er, hlx⟩ : ∃ ts at_ er, lexP s = (ts, at_, er) := ⟨_, _, _, rfl⟩
    have htx : T s.data.toList 0 0 = (ts, at_, er) := by rw [← lexP_T s (by omega), hlx]
    have hcount : ts.length ≤ 600 := by
      have h1 := T_count _ s.data.toList 0 0 (Nat.lt_succ_self _)
      have h2 : s.data.toList.length = s.size := Array.length_toList
      rw [htx] at h1
      simp only at h1
      omega
    have HLX := Lib.hid hlx
    have HTX := Lib.hid htx
    have HS := Lib.hid hs
    obtain ⟨L, hLL⟩ : ∃ L, linesP ts [] = L := ⟨_, rfl⟩
    have hlen := linesP_len ts []
    rw [hLL] at hlen
    have HLL := Lib.hid hLL
    clear hlx htx hs hLL
    go_enter Tryd.func3, Tryd.ntmps3
    go_wp2_with (go_at_call 9; refine HAL.out.mono ?_; rintro e w1 ⟨rfl, hb1⟩; refine Hid.out ?_)
    refine Lib.hid ?_
    have h1 := lex_calls s (by have := HS.out; omega) w1 (HL.out.on hb1)
    rw [HLX.out] at h1
    have H1 := Lib.hid h1
    have HB1 := Lib.hid hb1
    clear h1 hb1
    obtain ⟨n, hn⟩ : ∃ n, ts.length = n := ⟨_, rfl⟩
    go_wp2_with (go_at_call 10; refine H1.out.mono ?_; rintro e w2 ⟨A2, c2, rfl, ho2, hb2⟩; refine Hid.out ?_)
    refine Lib.hid ?_
    have HB2 := Lib.hid (HB1.out.trans (Joins.below_le hb2 HB1.out.size))
    have HT2 := Lib.hid (TokAt.of_own ho2 rfl : TokAt w2 A2 ts)
    have HN2 := Lib.hid (own_bare ho2 (l := ts) rfl)
    clear hb2 ho2 H1 HB1
    have h2 := refLex_calls s (by have := HS.out; omega) w2 (HU.out.on HB2.out)
    rw [HTX.out] at h2
    have H2 := Lib.hid h2
    clear h2
    go_wp2_with (go_at_call 11; refine H2.out.mono ?_; rintro e w3 ⟨A3, c3, rfl, ho3, hb3⟩; refine Hid.out ?_)
    refine Lib.hid ?_
    have HB3 := Lib.hid (HB2.out.trans (Joins.below_le hb3 HB2.out.size))
    have HT3 := Lib.hid (HT2.out.on hb3)
    have HW3 := Lib.hid (TokAt.of_own ho3 rfl : TokAt w3 A3 ts)
    clear hb3 ho3 H2 HT2
    have h4 := as_calls A2 ts c2 w3 HT3.out (by omega)
    rw [hn] at h4
    have H4 := Lib.hid h4
    have HN := Lib.hid hn
    have hn6 : n ≤ 600 := by omega
    have hL6 : L.length ≤ 601 := by omega
    clear h4 hn hcount hlen
    go_wp2_with (go_at_call 13; refine H4.out.mono ?_; rintro e w4 ⟨A4, c4, rfl, ho4, hb4⟩; refine Hid.out ?_)
    refine Lib.hid ?_
    have HB4 := Lib.hid (HB3.out.trans (Joins.below_le hb4 HB3.out.size))
    have h5 := exact_calls A4 A3 ts c4 c3 w4 (TokAt.of_own ho4 HN.out) (HW3.out.on hb4) (by rw [HN.out]; omega)
    rw [HN.out] at h5
    have H5 := Lib.hid h5
    have HT4 := Lib.hid (HT3.out.on hb4)
    have HW4 := Lib.hid (HW3.out.on hb4)
    clear h5 hb4 ho4 H4 HT3 HW3
    go_wp2_with (go_at_call 12; refine H5.out.mono ?_; rintro e w5 ⟨rfl, hb5⟩; refine Hid.out ?_)
    refine Lib.hid ?_
    have HB5 := Lib.hid (HB4.out.trans (Joins.below_le hb5 HB4.out.size))
    have HT5 := Lib.hid (HT4.out.on hb5)
    have h6 := refLines_calls A3 ts c3 w5 (HW4.out.on hb5) (by rw [HN.out]; omega)
    rw [HN.out] at h6
    have H6 := Lib.hid h6
    clear h6 hb5 H5 HT4 HW4
    go_wp2_with (go_at_call 14; refine H6.out.mono ?_; rintro e w6 ⟨zs, A6, c6, rfl, hzs, ho6, hr6, hb6⟩; refine Hid.out ?_)
    refine Lib.hid ?_
    obtain ⟨m, hm⟩ : ∃ m, L.length = m := ⟨_, rfl⟩
    have hzl : zs.length = m := by rw [← hm, ← HLL.out, ← hzs, List.length_map]
    have HB6 := Lib.hid (HB5.out.trans (Joins.below_le hb6 HB5.out.size))
    have HT6 := Lib.hid (HT5.out.on hb6)
    have HZS := Lib.hid (hzs.trans HLL.out)
    have HO6 := Lib.hid ho6
    have HR6 := Lib.hid hr6
    have h7 := lawLines_calls A2 ts c2 1000 w6 HT6.out HN2.out (by rw [HN.out]; omega)
    rw [HN.out, HLL.out, takeM_all L (by omega)] at h7
    have H7 := Lib.hid h7
    clear h7 hb6 ho6 hr6 hzs H6 HT5
    rw [hm] at hL6
    have HM := Lib.hid hm
    clear hm
    go_wp2_with (go_at_call 15; refine H7.out.mono ?_; rintro e w7 ⟨ys, A7, c7, rfl, hys, ho7, hr7, hb7⟩; refine Hid.out ?_)
    refine Lib.hid ?_
    have hyl : ys.length = m := by rw [← HM.out, ← hys, List.length_map]
    rw [hyl]
    have HB7 := Lib.hid (HB6.out.trans (Joins.below_le hb7 HB6.out.size))
    have HT7 := Lib.hid (HT6.out.on hb7)
    have HYS := Lib.hid hys
    have HO7 := Lib.hid ho7
    have HR7 := Lib.hid hr7
    have HB67 := Lib.hid hb7
    obtain ⟨q, hqq, hq7⟩ := and7_bound most
    unfold and7 at hqq
    have h8 := lawLines_calls A2 ts c2 (q : Int) w7 HT7.out HN2.out (by rw [HN.out]; omega)
    rw [HN.out, HLL.out] at h8
    have H8 := Lib.hid h8
    clear h8 hb7 ho7 hr7 hys H7 HT6
    go_wp2_with fail
    refine H8.out.mono ?_
    rintro e w8 ⟨vs, A8, c8, rfl, hvs, -, -, hb8⟩
    have hvl : vs.length = min q m := by rw [← List.length_map (f := Ln.l), hvs, takeM_len, HM.out]
    have HB8 := Lib.hid (HB7.out.trans (Joins.below_le hb8 HB7.out.size))
    have HB78 := Lib.hid hb8
    rw [hvl]
    have hmn : (((min q m : Nat) : Int) != min (q : Int) (m : Int)) = false := by rw [bne_eq_false_iff_eq]; omega
    clear hb8 hvs H8 hvl
    go_wp2_with fail
    have HO68 := Lib.hid (own_below (own_below HO6.out HB67.out) HB78.out)
    have HO78 := Lib.hid (own_below HO7.out HB78.out)
    have HLZ := Lib.hid hzl
    have HLY := Lib.hid hyl
    have hm6 : m ≤ 601 := by omega
    have HLT := Lib.hid (show ∀ y ∈ ys, y.l.length ≤ 60000 from fun y hy => Nat.le_trans (linesP_each ts [] y.l (by rw [HLL.out, ← HYS.out]; exact List.mem_map_of_mem hy)) (by rw [HN.out]; simp; omega))
    clear HO6 HO7 hzl hyl
    go_loopw [71] (fun vk wr => ∃ (k : Nat), vk = .int .i64 (k : Int) ∧ Hid (k ≤ m) ∧ Hid (Below w8.heap.size w8 wr)) (fun vk _ => m - (intOf vk).toNat)
    case atStart => exact ⟨0, rfl, Lib.hid (Nat.zero_le _), Lib.hid (Below.refl _ _)⟩
    case round =>
      obtain ⟨k, rfl, HK, HB⟩ := hrel
      by_cases hk : k < m
      · obtain ⟨⟨Ay, cy, ly⟩, hy⟩ : ∃ y, ys[k]? = some y := ⟨_, List.getElem?_eq_getElem (by rw [HLY.out]; exact hk)⟩
        obtain ⟨⟨Az, cz, lz⟩, hz⟩ : ∃ z, zs[k]? = some z := ⟨_, List.getElem?_eq_getElem (by rw [HLZ.out]; exact hk)⟩
        have hll := same_ln HYS.out HZS.out hy hz
        simp only at hll
        subst hll
        have hLY := HO78.out
        rw [HLY.out] at hLY
        have hLZ := HO68.out
        rw [HLZ.out] at hLZ
        obtain ⟨g7, rfl, hg7, p7⟩ := slice_cells hLY hy hk
        obtain ⟨g6, rfl, hg6, p6⟩ := slice_cells hLZ hz hk
        have ty := ((TokAt.of_own (HR7.out _ (List.mem_of_getElem? hy)) rfl : TokAt w7 Ay ly).on HB78.out).on HB.out
        have tz := (((TokAt.of_own (HR6.out _ (List.mem_of_getElem? hz)) rfl : TokAt w6 Az ly).on HB67.out).on HB78.out).on HB.out
        have hl0 := HLT.out _ (List.mem_of_getElem? hy)
        replace p7 := (HB.out.cell (p := ⟨g7, k, none⟩) hg7).trans p7
        replace p6 := (HB.out.cell (p := ⟨g6, k, none⟩) hg6).trans p6
        simp only at p7 p6 hl0
        have h6w : g6 < wr.heap.size := Nat.lt_of_lt_of_le hg6 HB.out.size
        have hAS := as_calls Ay ly cy wr.drew (ty.on (Below.refl _ wr).drew) (by omega)
        have hEX := fun W A' c' (h1 : TokAt W A' ly) (h2 : TokAt W Az ly) => exact_calls A' Az ly c' cz W h1 h2 (by omega)
        obtain ⟨r, hr⟩ : ∃ r, ly.length = r := ⟨_, rfl⟩
        rw [hr] at hAS hEX p7 p6
        have HAS := Lib.hid hAS
        have HEX := Lib.hid hEX
        have HTZ := Lib.hid (tz.on (Below.refl _ wr).drew)
        have HRr := Lib.hid hr
        have HP6 := Lib.hid (show wr.drew.cell? ⟨g6, k, none⟩ = some (.slice Az r cz) from p6)
        have k1 : (0 : Int) ≤ k := by omega
        have k2 : (k : Int) < m := by omega
        have k3 : ¬ (m : Int) ≤ k := by omega
        clear hAS hEX ty tz hLY hLZ hy hz hr p6 hg7 hg6
        go_wp2_with fail
        go_region_held3 (fun W => W.cell? ⟨g6, k, none⟩ = some (.slice Az r cz)) (first | exact HP6.out | exact HP9.out | exact HP10.out)
          (first
            | (go_at_call 13; refine HAS.out.mono ?_; rintro e w9 ⟨A9, c9, rfl, ho9, hb9⟩; have HP9 := Lib.hid ((hb9.cell (p := ⟨g6, k, none⟩) h6w).trans HP6.out); have HT9 := Lib.hid (TokAt.of_own ho9 HRr.out); have HZ9 := Lib.hid (HTZ.out.on hb9); have HB9 := Lib.hid hb9; have HS9 := Lib.hid (Nat.lt_of_lt_of_le h6w hb9.size); clear ho9 hb9)
            | (go_at_call 12; refine (HEX.out _ _ _ HT9.out HZ9.out).mono ?_; rintro e w10 ⟨rfl, hb10⟩; have HP10 := Lib.hid ((hb10.cell (p := ⟨g6, k, none⟩) HS9.out).trans HP9.out)))
        have HB10 := Lib.hid (show Below w8.heap.size w8 w10 from (HB.out.drew).trans (Joins.below_le (HB9.out.trans (Joins.below_le hb10 HB9.out.size)) HB.out.size))
        clear hb10 p7
        go_wp2_with fail
        go_round
        case rel => exact ⟨k + 1, by go_num, Lib.hid (by omega), HB10⟩
        case measure => simp [intOf]; omega
      · go_wp2_with fail
        go_ret
        exact ⟨rfl, HB8.out.trans (Joins.below_le HB.out HB8.out.size)⟩
end Go.Proofs.YtonihjijienigaaDoor
