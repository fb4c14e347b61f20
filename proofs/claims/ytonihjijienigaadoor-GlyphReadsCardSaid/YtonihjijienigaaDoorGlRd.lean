/- Layer 2 (glyph): the document's Lex. -/
import Derived.Test.YtonihjijienigaaDoorGlRc
import Derived.Test.YtonihjijienigaaDoorGlU
import Derived.Test.YtonihjijienigaaDoorGlS
namespace Go.Proofs.YtonihjijienigaaDoor
open Go.RowKit

def joinT (acc : List Tok) (q : List Tok × Int × Int) : List Tok × Int × Int := if q.2.2 ≠ 0 then ([], q.2.1, q.2.2) else (acc ++ q.1, 0, 0)
theorem joinT_cons (acc : List Tok) (t : Tok) (q : List Tok × Int × Int) : joinT acc (consT t q) = joinT (acc ++ [t]) q := by
  unfold joinT consT
  by_cases h : q.2.2 = 0
  · simp [h]
  · simp [h]
theorem T_next (c : UInt8) (r : List UInt8) (a line : Nat) :
    ((nextP (c :: r) a line).2.2.2 ≠ 0 → T (c :: r) a line = ([], (a : Int), (nextP (c :: r) a line).2.2.2)) ∧
    ((nextP (c :: r) a line).2.2.2 = 0 → (nextP (c :: r) a line).2.1 = false → T (c :: r) a line = T ((c :: r).drop (nextP (c :: r) a line).2.2.1) (a + (nextP (c :: r) a line).2.2.1) line) ∧
    ((nextP (c :: r) a line).2.2.2 = 0 → (nextP (c :: r) a line).2.1 = true → T (c :: r) a line = consT (nextP (c :: r) a line).1 (T ((c :: r).drop (nextP (c :: r) a line).2.2.1) (a + (nextP (c :: r) a line).2.2.1) (if (nextP (c :: r) a line).1.kind = 3 then line + 1 else line))) ∧
    1 ≤ (nextP (c :: r) a line).2.2.1 ∧ (nextP (c :: r) a line).2.2.1 ≤ r.length + 1 := by
  by_cases h1 : blankB (c.toNat : Int) = true
  · have e : nextP (c :: r) a line = (tok0, false, 1, 0) := by
      show (if blankB (c.toNat : Int) = true then _ else _) = _
      rw [if_pos h1]
    rw [e]
    refine ⟨fun h => absurd rfl h, fun _ _ => ?_, fun _ h => (by cases h), Nat.le_refl _, by simp⟩
    rw [T_blank c r a line h1]
    rfl
  · have h1 := Bool.eq_false_iff.2 h1
    by_cases h2 : c.toNat = 35
    · have e : nextP (c :: r) a line = (tok0, false, 1 + (r.takeWhile nlC).length, 0) := by
        show (if blankB (c.toNat : Int) = true then _ else _) = _
        rw [h1, if_neg (by decide), if_pos h2]
      rw [e]
      have hle := takeWhile_le nlC r
      refine ⟨fun h => absurd rfl h, fun _ _ => ?_, fun _ h => (by cases h), Nat.le_add_right _ _, by simp only; omega⟩
      rw [T_remark c r a line h1 h2, dropWhile_drop, Nat.add_assoc, Nat.add_comm 1, List.drop_succ_cons]
    · have e := nextP_read c r a line h1 h2
      have t1 := tokLen_pos c r
      have t2 := tokLen_le c r
      rw [List.length_cons] at t2
      by_cases h3 : (readN (c :: r)).2 = 0
      · rw [if_pos h3] at e
        rw [e]
        refine ⟨fun h => absurd rfl h, fun _ h => (by cases h), fun _ _ => ?_, t1, t2⟩
        rw [T_tok c r a line h1 h2 h3]
        rfl
      · rw [if_neg h3] at e
        rw [e]
        exact ⟨fun _ => T_bad c r a line h1 h2 h3, fun h => absurd h h3, fun h => absurd h h3, t1, t2⟩

def LexOk (X : List Tok × Int × Int) (w : World) (e : Ending) (w' : World) : Prop := ∃ A c, e = .returned (.tuple #[.slice A X.1.length c, .int .i64 X.2.1, .int .i64 X.2.2]) ∧
  w'.ownsRow w.heap.size 44 5 (.slice A X.1.length c) X.1.length (flatT X.1) ∧ Below w.heap.size w w'

set_option maxRecDepth 100000 in
set_option maxHeartbeats 4000000 in
theorem refLex_calls (s : ByteArray) (hs : s.size ≤ 600) (w : World) (hU : Utf w) :
    Calls Tryd.prog 11 #[.string s] w (LexOk (T s.data.toList 0 0) w) := by
  obtain ⟨X, hX⟩ : ∃ X, T s.data.toList 0 0 = X := ⟨_, rfl⟩
  rw [hX]
  have hj : joinT [] (T s.data.toList 0 0) = X := by
    rw [hX]
    have hcl := T_clean _ s.data.toList 0 0 (Nat.lt_succ_self _)
    rw [hX] at hcl
    unfold joinT
    by_cases h : X.2.2 = 0
    · rw [if_neg (by rw [h]; decide), List.nil_append]
      have h2 := hcl.1 h
      obtain ⟨a, b, c⟩ := X
      simp only at h h2
      rw [h, h2]
    · rw [if_pos h]
      have h2 := hcl.2 h
      obtain ⟨a, b, c⟩ := X
      simp only at h2
      rw [h2]
  have HJ := Lib.hid hj
  have hz : s.data.toList.length = s.size := Array.length_toList
  have HZ := Lib.hid hz
  have HU := Lib.hid hU
  have hsz : (s.size : Int) ≤ 600 := by omega
  obtain ⟨i0, hi0, hz0, hz1, hz2⟩ := info_parts' infoRef5
  clear hX hj hz hU
  go_enter Tryd.func11, Tryd.ntmps11
  go_wp2
  go_loopw [5, 6, 7] (fun vo vl vp wr => ∃ (acc : List Tok) (k p line : Nat) (V : Option Addr) (q : Nat), vo = .slice V k q ∧ vl = .int .i64 (line : Int) ∧ vp = .int .i64 (p : Int) ∧ Hid (acc.length = k ∧ p ≤ s.size ∧ k ≤ p ∧ line ≤ p) ∧
      Hid (joinT acc (T (s.data.toList.drop p) p line) = X) ∧ Hid (wr.ownsRow w.heap.size 44 5 (.slice V k q) k (flatT acc)) ∧ Hid (Below w.heap.size w wr))
    (fun _ _ vp _ => s.size - (intOf vp).toNat)
  case atStart =>
    exact ⟨[], 0, 0, 0, _, _, rfl, rfl, rfl, Lib.hid ⟨rfl, by omega, by omega, by omega⟩, Lib.hid (by rw [List.drop_zero]; exact HJ.out), Lib.hid (own_empty w _ _), Lib.hid ((Below.refl _ w).alloc (Nat.le_refl _) _)⟩
  case round =>
    obtain ⟨acc, k, p, line, V, q, rfl, rfl, rfl, HK, HX, HO, HB⟩ := hrel
    by_cases hlt : p < s.size
    · have hdr : s.data.toList.drop p = s[p] :: s.data.toList.drop (p + 1) := by
        rw [List.drop_eq_getElem_cons (by rw [HZ.out]; exact hlt)]
        rfl
      have hN := next_calls s p line wr (by omega) hlt (HU.out.on HB.out)
      obtain ⟨h1, h2, h3, h4, h5⟩ := T_next s[p] (s.data.toList.drop (p + 1)) p line
      rw [← hdr] at h1 h2 h3 h4 h5
      rw [List.length_drop, HZ.out] at h5
      obtain ⟨⟨U, is, n, E⟩, hNx⟩ : ∃ N, nextP (s.data.toList.drop p) p line = N := ⟨_, rfl⟩
      rw [hNx] at hN h1 h2 h3 h4 h5
      simp only at h1 h2 h3 h4 h5
      rw [List.drop_drop] at h2 h3
      have HN := Lib.hid hN
      have H1 := Lib.hid h1
      have H2 := Lib.hid h2
      have H3 := Lib.hid h3
      have hpn : p + n ≤ s.size := by omega
      clear hN h1 h2 h3 hdr hNx h5
      go_wp2_with fail
      refine HN.out.mono ?_
      rintro e w1 ⟨rfl, hb1⟩
      have HB1 := Lib.hid (HB.out.trans (Joins.below_le hb1 HB.out.size))
      have HO1 := Lib.hid ((Kept.below hb1).own HO.out (fun j hj => by have := (HO.out.lt j hj).2; omega))
      clear hb1
      by_cases hE : E = 0
      · have H2' := H2.out hE
        have H3' := H3.out hE
        clear H1 H2 H3
        subst hE
        cases is
        · have HX2 := Lib.hid (show joinT acc (T (s.data.toList.drop (p + n)) (p + n) line) = X by rw [← H2' rfl]; exact HX.out)
          clear H2' H3'
          go_wp2_with (refine wpList_store_ref w1.heap.size _ U (heap_alloc_new _ _) rfl _ _ rfl rfl rfl rfl ?_; refine Hid.out ?_)
          refine Lib.hid ?_
          have hb2 := below_setRow ((Below.refl _ w1).alloc (Nat.le_refl _) (.cells #[.int .i64 0, .string ⟨#[]⟩, .int .u64 0, .int .i64 0, .int .i64 0] 44)) (Nat.le_refl _) (tokC U)
          have hg2 : Blk ((w1.alloc (.cells #[.int .i64 0, .string ⟨#[]⟩, .int .u64 0, .int .i64 0, .int .i64 0] 44)).setRow w1.heap.size (tokC U)) w1.heap.size 44 (tokC U) := heap_setRow _ _ _ _ _ _ (heap_alloc_new _ _)
          obtain ⟨g, hg⟩ : ∃ g, w1.heap.size = g := ⟨_, rfl⟩
          obtain ⟨w2, hw2⟩ : ∃ w2, (w1.alloc (.cells #[.int .i64 0, .string ⟨#[]⟩, .int .u64 0, .int .i64 0, .int .i64 0] 44)).setRow w1.heap.size (tokC U) = w2 := ⟨_, rfl⟩
          rw [hw2] at hb2 hg2 ⊢
          have HB2 := Lib.hid (HB1.out.trans (Joins.below_le hb2 HB1.out.size))
          have HO2 := Lib.hid ((Kept.below hb2).own HO1.out (fun j hj => by have := (HO1.out.lt j hj).2; omega))
          have HGV := Lib.hid (show ∀ j, (Value.slice V k q).ownBlock = some j → j < g from fun j hj => hg ▸ (HO1.out.lt j hj).2)
          rw [hg] at hg2 ⊢
          have HG2 := Lib.hid hg2
          clear hw2 hb2 hg2 hg
          have p0 : w2.cell? ⟨g, 0, none⟩ = some (.int .i64 U.kind) := HG2.out.cell 0
          have p1 : w2.cell? ⟨g, 1, none⟩ = some (.string U.text) := HG2.out.cell 1
          have p2 : w2.cell? ⟨g, 2, none⟩ = some (.int .u64 U.num) := HG2.out.cell 2
          have p3 : w2.cell? ⟨g, 3, none⟩ = some (.int .i64 U.at_) := HG2.out.cell 3
          have p4 : w2.cell? ⟨g, 4, none⟩ = some (.int .i64 U.line) := HG2.out.cell 4
          have hpn' : (p : Int) + (n : Int) ≤ 600 := by omega
          go_wp2_with fail
          go_round
          case rel => exact ⟨acc, k, p + n, line, V, q, rfl, rfl, by go_num, Lib.hid (by have := HK.out; omega), HX2, HO2, HB2⟩
          case measure => simp [intOf]; omega
        · have hx := H3' rfl
          have hx2 := HX.out
          rw [hx, joinT_cons] at hx2
          have HX2 := Lib.hid hx2
          clear hx hx2 H2' H3'
          go_wp2_with (refine wpList_store_ref w1.heap.size _ U (heap_alloc_new _ _) rfl _ _ rfl rfl rfl rfl ?_; refine Hid.out ?_)
          refine Lib.hid ?_
          have hb2 := below_setRow ((Below.refl _ w1).alloc (Nat.le_refl _) (.cells #[.int .i64 0, .string ⟨#[]⟩, .int .u64 0, .int .i64 0, .int .i64 0] 44)) (Nat.le_refl _) (tokC U)
          have hg2 : Blk ((w1.alloc (.cells #[.int .i64 0, .string ⟨#[]⟩, .int .u64 0, .int .i64 0, .int .i64 0] 44)).setRow w1.heap.size (tokC U)) w1.heap.size 44 (tokC U) := heap_setRow _ _ _ _ _ _ (heap_alloc_new _ _)
          obtain ⟨g, hg⟩ : ∃ g, w1.heap.size = g := ⟨_, rfl⟩
          obtain ⟨w2, hw2⟩ : ∃ w2, (w1.alloc (.cells #[.int .i64 0, .string ⟨#[]⟩, .int .u64 0, .int .i64 0, .int .i64 0] 44)).setRow w1.heap.size (tokC U) = w2 := ⟨_, rfl⟩
          rw [hw2] at hb2 hg2 ⊢
          have HB2 := Lib.hid (HB1.out.trans (Joins.below_le hb2 HB1.out.size))
          have HO2 := Lib.hid ((Kept.below hb2).own HO1.out (fun j hj => by have := (HO1.out.lt j hj).2; omega))
          have HGV := Lib.hid (show ∀ j, (Value.slice V k q).ownBlock = some j → j < g from fun j hj => hg ▸ (HO1.out.lt j hj).2)
          rw [hg] at hg2 ⊢
          have HG2 := Lib.hid hg2
          clear hw2 hb2 hg2 hg
          have p0 : w2.cell? ⟨g, 0, none⟩ = some (.int .i64 U.kind) := HG2.out.cell 0
          have p1 : w2.cell? ⟨g, 1, none⟩ = some (.string U.text) := HG2.out.cell 1
          have p2 : w2.cell? ⟨g, 2, none⟩ = some (.int .u64 U.num) := HG2.out.cell 2
          have p3 : w2.cell? ⟨g, 3, none⟩ = some (.int .i64 U.at_) := HG2.out.cell 3
          have p4 : w2.cell? ⟨g, 4, none⟩ = some (.int .i64 U.line) := HG2.out.cell 4
          have hk600 : k ≤ 600 := by have := HK.out; omega
          have hkM : (((k : Nat) : Int) == 16384) = false := beq_eq_false_iff_ne.2 (by omega)
          have hpn' : (p : Int) + (n : Int) ≤ 600 := by omega
          have hl6 : (line : Int) ≤ 600 := by have := HK.out; omega
          go_wp2_with (at_builtin; refine Hid.out ?_)
          refine Lib.hid ?_
          refine wpList_append_own_at _ rfl _ _ 27 rfl w.heap.size 44 i0 _ 5 48 Tryd.underlying27 hi0 hz0 hz1 hz2 rfl (by decide) (.slice V k q) k _ rfl (HO2.out.alloc _) ⟨w2.heap.size, 0, none⟩ 1 1 U.L rfl rfl (news_at _ (tokC U) _ _ rfl) (fun u hu => flatT_one' [U] u (by rw [flatT_one]; exact hu)) (by unfold maxLen; omega) (by omega) (Nat.le_trans HB2.out.size (by simp)) ?_
          intro v' w5 ho5 hg5 _ _
          obtain ⟨V', q', rfl⟩ := own_form ho5
          have hb5 : Below w.heap.size w w5 := (HB2.out.alloc HB2.out.size _).grown hg5 (by have := HB2.out.size; simp; omega) (fun j e => (HO2.out.lt j e).1)
          have r0 : w5.cell? ⟨g, 0, none⟩ = some (.int .i64 U.kind) := by
            refine World.grownBy.cell hg5 ?_ (fun e => ?_)
            · exact ((Below.refl w2.heap.size w2).alloc (Nat.le_refl _) _).cell (p := ⟨g, 0, none⟩) HG2.out.lt |>.trans p0
            · have := HGV.out g e.symm
              omega
          have HO5 := Lib.hid (show w5.ownsRow w.heap.size 44 5 (.slice V' (k + 1) q') (k + 1) (flatT (acc ++ [U])) by rw [flatT_append, flatT_one]; exact ho5)
          have HB5 := Lib.hid hb5
          clear ho5 hg5 hb5 p0 p1 p2 p3 p4
          by_cases hkd : U.kind = 3
          · have n3 : (U.kind == 3) = true := beq_iff_eq.2 hkd
            have hx3 := HX2.out
            rw [if_pos hkd] at hx3
            have HX3 := Lib.hid hx3
            clear hx3 hkd
            go_wp2_with fail
            go_round
            case rel => exact ⟨acc ++ [U], k + 1, p + n, line + 1, V', q', rfl, by go_num, by go_num, Lib.hid (by have := HK.out; rw [List.length_append]; simp only [List.length_cons, List.length_nil]; omega), HX3, HO5, HB5⟩
            case measure => simp [intOf]; omega
          · have n3 : (U.kind == 3) = false := beq_eq_false_iff_ne.2 hkd
            have hx3 := HX2.out
            rw [if_neg hkd] at hx3
            have HX3 := Lib.hid hx3
            clear hx3 hkd
            go_wp2_with fail
            go_round
            case rel => exact ⟨acc ++ [U], k + 1, p + n, line, V', q', rfl, rfl, by go_num, Lib.hid (by have := HK.out; rw [List.length_append]; simp only [List.length_cons, List.length_nil]; omega), HX3, HO5, HB5⟩
            case measure => simp [intOf]; omega
      · have hEb : (E == 0) = false := beq_eq_false_iff_ne.2 hE
        have hx := HX.out
        rw [H1.out hE] at hx
        have hX : X = ([], (p : Int), E) := by
          rw [← hx]
          unfold joinT
          rw [if_pos hE]
        subst hX
        clear hE hx
        go_wp2_with (refine wpList_store_ref w1.heap.size _ U (heap_alloc_new _ _) rfl _ _ rfl rfl rfl rfl ?_; refine Hid.out ?_)
        refine Lib.hid ?_
        have hb2 := below_setRow ((Below.refl _ w1).alloc (Nat.le_refl _) (.cells #[.int .i64 0, .string ⟨#[]⟩, .int .u64 0, .int .i64 0, .int .i64 0] 44)) (Nat.le_refl _) (tokC U)
        have hg2 : Blk ((w1.alloc (.cells #[.int .i64 0, .string ⟨#[]⟩, .int .u64 0, .int .i64 0, .int .i64 0] 44)).setRow w1.heap.size (tokC U)) w1.heap.size 44 (tokC U) := heap_setRow _ _ _ _ _ _ (heap_alloc_new _ _)
        obtain ⟨g, hg⟩ : ∃ g, w1.heap.size = g := ⟨_, rfl⟩
        obtain ⟨w2, hw2⟩ : ∃ w2, (w1.alloc (.cells #[.int .i64 0, .string ⟨#[]⟩, .int .u64 0, .int .i64 0, .int .i64 0] 44)).setRow w1.heap.size (tokC U) = w2 := ⟨_, rfl⟩
        rw [hw2] at hb2 hg2 ⊢
        have HB2 := Lib.hid (HB1.out.trans (Joins.below_le hb2 HB1.out.size))
        have HO2 := Lib.hid ((Kept.below hb2).own HO1.out (fun j hj => by have := (HO1.out.lt j hj).2; omega))
        have HGV := Lib.hid (show ∀ j, (Value.slice V k q).ownBlock = some j → j < g from fun j hj => hg ▸ (HO1.out.lt j hj).2)
        rw [hg] at hg2 ⊢
        have HG2 := Lib.hid hg2
        clear hw2 hb2 hg2 hg
        have p0 : w2.cell? ⟨g, 0, none⟩ = some (.int .i64 U.kind) := HG2.out.cell 0
        have p1 : w2.cell? ⟨g, 1, none⟩ = some (.string U.text) := HG2.out.cell 1
        have p2 : w2.cell? ⟨g, 2, none⟩ = some (.int .u64 U.num) := HG2.out.cell 2
        have p3 : w2.cell? ⟨g, 3, none⟩ = some (.int .i64 U.at_) := HG2.out.cell 3
        have p4 : w2.cell? ⟨g, 4, none⟩ = some (.int .i64 U.line) := HG2.out.cell 4
        go_wp2_with fail
        go_ret3
        exact ⟨none, 0, rfl, World.ownsRow_nil _ _ _ _, HB2.out⟩
    · have hpe : p = s.size := by have := HK.out; omega
      subst hpe
      have hx := HX.out
      rw [List.drop_of_length_le (by rw [HZ.out]; exact Nat.le_refl _), T_nil] at hx
      have hX : X = (acc, 0, 0) := by
        rw [← hx]
        unfold joinT
        rw [if_neg (by decide), List.append_nil]
      subst hX
      clear hx
      go_wp2_with fail
      go_ret3
      have hk := HK.out.1
      subst hk
      exact ⟨V, q, rfl, HO.out, HB.out⟩
end Go.Proofs.YtonihjijienigaaDoor
