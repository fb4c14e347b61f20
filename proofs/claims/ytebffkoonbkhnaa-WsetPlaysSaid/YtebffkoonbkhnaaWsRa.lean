/- The document's set (layer 8): New, Get, Back. -/
import Derived.Test.YtebffkoonbkhnaaWsY
import Derived.Test.YtebffkoonbkhnaaRow
namespace Go.Proofs.Ytebffkoonbkhnaa
open Go.RowKit Go.Maps

/-- The row pv, of n, holds what was put. -/
def RowP (w : World) (pv : Value) (n : Nat) (ps : List (Int × Int)) : Prop := ps.length = n ∧ w.ownsRow 0 129 2 pv n (entL ps)
theorem RowP.keep {w w' : World} {pv : Value} {n : Nat} {ps : List (Int × Int)} (h : RowP w pv n ps) (k : Kept (fun _ => False) w w') : RowP w' pv n ps := ⟨h.1, k.own h.2 (fun _ _ h => h)⟩
theorem RowP.nil (w : World) : RowP w (.slice none 0 0) 0 [] := ⟨rfl, World.ownsRow_nil _ _ _ _⟩

set_option maxHeartbeats 1000000 in
theorem rNew8_calls (room : Int) (w : World) : Calls Try.prog 32 #[.int .i64 room] w fun e w' => e = .returned (.agg #[.int .i64 (roomOf room), .slice none 0 0]) ∧ Kept (fun _ => False) w w' := by
  by_cases h0 : room < 0
  · have e : roomOf room = 0 := by unfold roomOf; omega
    rw [e]
    go_enter Try.func32, Try.ntmps32
    go_wp2_with fail
    exact bodyPost_ret (v := .agg _) (results_cell_row rfl _ _ w.heap.size 80 _ (0, 0) _ rfl (Blk.new' _ _ _ _ (by simp)) Try.underlying80 rfl (by kernel_rfl)) rfl ⟨rfl, (Kept.refl _ _).alloc _⟩
  · by_cases h1 : 65536 < room
    · have e : roomOf room = 65536 := by unfold roomOf; omega
      rw [e]
      go_enter Try.func32, Try.ntmps32
      go_wp2_with fail
      exact bodyPost_ret (v := .agg _) (results_cell_row rfl _ _ w.heap.size 80 _ (0, 0) _ rfl (Blk.new' _ _ _ _ (by simp)) Try.underlying80 rfl (by kernel_rfl)) rfl ⟨rfl, (Kept.refl _ _).alloc _⟩
    · have e : roomOf room = room := by unfold roomOf; omega
      rw [e]
      go_enter Try.func32, Try.ntmps32
      go_wp2_with fail
      exact bodyPost_ret (v := .agg _) (results_cell_row rfl _ _ w.heap.size 80 _ (0, 0) _ rfl (Blk.new' _ _ _ _ (by simp)) Try.underlying80 rfl (by kernel_rfl)) rfl ⟨rfl, (Kept.refl _ _).alloc _⟩

/-- The head of the loop from the last one on. -/
def GRel (w0 : World) (ps : List (Int × Int)) (a : Int) (i : Value) (wr : World) : Prop :=
  ∃ (W : World) (k : Nat), W = wr ∧ i = .int .i64 ((k : Int) - 1) ∧ k ≤ ps.length ∧ look (ents (ps.take k)) a = look (ents ps) a ∧ Kept (fun _ => False) w0 W
theorem take_at {ps : List (Int × Int)} {j : Nat} {p : Int × Int} (h : ps[j]? = some p) : ps.take (j + 1) = ps.take j ++ [p] := by
  obtain ⟨hk, rfl⟩ := List.getElem?_eq_some_iff.1 h
  rw [List.take_succ_eq_append_getElem hk]

set_option maxRecDepth 100000 in
set_option maxHeartbeats 2000000 in
theorem rGet_calls {w : World} {pv : Value} {n : Nat} {ps : List (Int × Int)} (h : RowP w pv n ps) (hn : n ≤ 60000) (room a : Int) :
    Calls Try.prog 63 #[.agg #[.int .i64 room, pv], .int .i64 a] w fun e w' => e = .returned (getV ps a) ∧ Kept (fun _ => False) w w' := by
  obtain ⟨hl, ho⟩ := h
  obtain ⟨A, c, rfl⟩ := own_form ho
  have HL := Lib.hid hl
  have HR : Hid (RowP (w.alloc (.cells #[.int .i64 room, .slice A n c] 80)) (.slice A n c) n ps) := Lib.hid (RowP.keep ⟨hl, ho⟩ ((Kept.refl _ _).alloc _))
  have HB : Hid (Blk (w.alloc (.cells #[.int .i64 room, .slice A n c] 80)) w.heap.size 80 #[.int .i64 room, .slice A n c]) := Lib.hid (Blk.new _ _ _)
  have HK0 : Hid (Kept (fun _ => False) w (w.alloc (.cells #[.int .i64 room, .slice A n c] 80))) := Lib.hid ((Kept.refl _ _).alloc _)
  clear hl ho
  go_enter Try.func63, Try.ntmps63
  go_wp2_with fail
  go_loopw [6] (fun i wr => GRel (w.alloc (.cells #[.int .i64 room, .slice A n c] 80)) ps a i wr) (fun i _ => (intOf i + 1).toNat)
  case atStart => exact ⟨_, n, rfl, rfl, by rw [HL.out]; exact Nat.le_refl _, by rw [List.take_of_length_le (by rw [HL.out]; exact Nat.le_refl _)], Kept.refl _ _⟩
  case round =>
    obtain ⟨W, k, rfl, rfl, hk, hlk, hK⟩ := hrel
    rw [HL.out] at hk
    cases k with
    | zero =>
      have HG : Hid (getV ps a = .tuple #[.int .u64 0, .bool false]) := Lib.hid (by unfold getV; rw [← hlk]; rfl)
      have HK := Lib.hid hK
      clear hlk hK
      go_wp2_with fail
      go_ret2
      exact ⟨by rw [HG.out]; rfl, HK0.out.trans HK.out⟩
    | succ j =>
      have ej : (((j + 1 : Nat) : Int) - 1) = (j : Int) := by omega
      rw [ej]
      obtain ⟨⟨x, y⟩, he⟩ : ∃ e, ps[j]? = some e := ⟨_, List.getElem?_eq_getElem (by rw [HL.out]; omega)⟩
      have hrow := (HR.out.keep hK).2
      obtain ⟨g, _, ea, _⟩ := own_some hrow (by omega)
      injection ea with ea _ ea3
      subst ea ea3
      have d : W.cell? ⟨g, j * 2, none⟩ = some (.int .i64 x) ∧ W.cell? ⟨g, j * 2 + 1, none⟩ = some (.int .u64 y) := ent_cells hrow he (by omega)
      obtain ⟨d0, d1⟩ := d
      have b1 : W.cell? ⟨w.heap.size, 1, none⟩ = some (.slice (some ⟨g, 0, none⟩) n c) := (hK.blk HB.out (fun h => h)).cell 1
      rw [take_at he, look_put] at hlk
      have hj : j < n := by omega
      by_cases hx : x = a
      · have hx' : (x == a) = true := by simpa using hx
        have HG : Hid (getV ps a = .tuple #[.int .u64 y, .bool true]) := Lib.hid (by unfold getV; rw [← hlk, if_pos hx.symm]; rfl)
        have HK := Lib.hid hK
        clear hlk hK he hrow ej hx
        go_wp2_with fail
        go_ret2
        exact ⟨by rw [HG.out]; rfl, HK0.out.trans HK.out⟩
      · have hx' : (x == a) = false := by simpa using hx
        rw [if_neg (fun e => hx e.symm)] at hlk
        have HN := Lib.hid hlk
        have HK := Lib.hid hK
        clear hlk hK he hrow ej hx
        go_wp2_with fail
        first | exact ⟨⟨_, j, rfl, rfl, by rw [HL.out]; omega, HN.out, HK.out⟩, by simp only [intOf]; omega⟩ | (go_roundw; (case rel => exact ⟨_, j, rfl, rfl, by rw [HL.out]; omega, HN.out, HK.out⟩); (case measure => simp only [intOf]; omega))

set_option maxRecDepth 100000 in
set_option maxHeartbeats 2000000 in
theorem rBack_calls {w : World} {pv : Value} {n : Nat} {ps : List (Int × Int)} (h : RowP w pv n ps) (hn : n ≤ 60000) (room mark : Int) :
    Calls Try.prog 43 #[.agg #[.int .i64 room, pv], .int .i64 mark] w fun e w' => ∃ pv', e = .returned (.tuple #[.agg #[.int .i64 room, pv'], .bool (decide (0 ≤ mark ∧ mark ≤ ps.length))]) ∧
      RowP w' pv' (if 0 ≤ mark ∧ mark ≤ ps.length then mark.toNat else n) (if 0 ≤ mark ∧ mark ≤ ps.length then ps.take mark.toNat else ps) ∧ Kept (fun _ => False) w w' ∧ pv'.ownBlock = pv.ownBlock := by
  obtain ⟨hl, ho⟩ := h
  obtain ⟨A, c, rfl⟩ := own_form ho
  by_cases hm : 0 ≤ mark ∧ mark ≤ ps.length
  · rw [if_pos hm, if_pos hm, decide_eq_true hm]
    obtain ⟨k, rfl⟩ := Int.eq_ofNat_of_zero_le hm.1
    have hk : k ≤ n := by omega
    rw [Int.toNat_natCast]
    have HP : Hid (∃ pv', pv' = Value.slice A k c ∧ RowP w pv' k (ps.take k)) := Lib.hid (by
      refine ⟨_, rfl, by rw [List.length_take]; omega, ?_⟩
      rcases Nat.eq_zero_or_pos n with h0 | h0
      · have hk0 : k = 0 := by omega
        subst hk0
        subst h0
        have e : ps = [] := List.eq_nil_of_length_eq_zero hl
        subst e
        exact ho
      · obtain ⟨g, c', ea, _⟩ := own_some ho h0
        injection ea with ea _ ea3
        subst ea ea3
        have := own_cut ho hk
        rw [entL_take] at this
        exact this)
    have hkc : k ≤ c := by
      rcases ho.2 with ⟨e, h0⟩ | ⟨g, cap, cur, e, _, _, hh, _⟩
      · injection e with _ e2 e3; omega
      · injection e with _ e2 e3; omega
    clear hl ho hm
    go_enter Try.func43, Try.ntmps43
    go_wp2_with fail
    go_region
    go_wp2_with fail
    obtain ⟨_, rfl, hp⟩ := HP.out
    exact bodyPost_ret (v := .tuple #[.agg #[.int .i64 room, .slice A k c], .bool true]) (results_cell_slot (q := 5) rfl _ _ (w.heap.size + 1) 80 #[.int .i64 room, .slice A k c] (0, 0) _ rfl (Blk.drew (Blk.new' _ _ _ _ (by simp))) Try.underlying80 rfl (by kernel_rfl)) rfl ⟨_, rfl, hp.keep (((Kept.refl (fun _ => False) w).alloc _).alloc _).drew, (((Kept.refl (fun _ => False) w).alloc _).alloc _).drew, (by cases A <;> rfl)⟩
  · rw [if_neg hm, if_neg hm, decide_eq_false hm]
    have HP : Hid (RowP w (.slice A n c) n ps) := Lib.hid ⟨hl, ho⟩
    have hor : mark < 0 ∨ (0 ≤ mark ∧ (n : Int) < mark) := by omega
    clear hl ho hm
    rcases hor with h1 | ⟨h1, h2⟩
    · go_enter Try.func43, Try.ntmps43
      go_wp2_with fail
      exact bodyPost_ret (v := .tuple #[.agg #[.int .i64 room, .slice A n c], .bool false]) (results_cell_slot (q := 5) rfl _ _ (w.heap.size + 1) 80 #[.int .i64 room, .slice A n c] (0, 0) _ rfl (Blk.new' _ _ _ _ (by simp)) Try.underlying80 rfl (by kernel_rfl)) rfl ⟨_, rfl, HP.out.keep (((Kept.refl (fun _ => False) w).alloc _).alloc _), (((Kept.refl (fun _ => False) w).alloc _).alloc _), rfl⟩
    · go_enter Try.func43, Try.ntmps43
      go_wp2_with fail
      exact bodyPost_ret (v := .tuple #[.agg #[.int .i64 room, .slice A n c], .bool false]) (results_cell_slot (q := 5) rfl _ _ (w.heap.size + 1) 80 #[.int .i64 room, .slice A n c] (0, 0) _ rfl (Blk.new' _ _ _ _ (by simp)) Try.underlying80 rfl (by kernel_rfl)) rfl ⟨_, rfl, HP.out.keep (((Kept.refl (fun _ => False) w).alloc _).alloc _), (((Kept.refl (fun _ => False) w).alloc _).alloc _), rfl⟩
end Go.Proofs.Ytebffkoonbkhnaa
