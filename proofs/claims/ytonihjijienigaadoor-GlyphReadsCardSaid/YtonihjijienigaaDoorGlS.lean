/- Layer 2 (glyph): the law's as; the document's Same. -/
import Derived.Test.YtonihjijienigaaDoorGlK
import Derived.Test.YtonihjijienigaaDoorGlJ
import Derived.Test.YtonihjijienigaaDoorGlCo
import Derived.BigQuiet
namespace Go.Proofs.YtonihjijienigaaDoor
open Go.RowKit

theorem below_drewN {B : Nat} {a w : World} (h : Below B a w) (n : Nat) : Below B a (w.drewN n) := ⟨h.os, h.tape, h.output, h.size, h.block⟩

set_option maxRecDepth 100000 in
set_option maxHeartbeats 2000000 in
theorem as_calls (A : Option Addr) (l : List Tok) (c : Nat) (w : World) (hA : TokAt w A l) (hl : l.length ≤ 70000) :
    Calls Tryd.prog 13 #[.slice A l.length c] w fun e w' => ∃ A' c', e = .returned (.slice A' l.length c') ∧
      w'.ownsRow w.heap.size 44 5 (.slice A' l.length c') l.length (flatT l) ∧ Below w.heap.size w w' := by
  obtain ⟨i0, hi0, hz0, hz1, hz2⟩ := info_parts' infoRef5
  obtain ⟨n, hn⟩ : ∃ n, l.length = n := ⟨_, rfl⟩
  rw [hn]
  have HN := Lib.hid hn
  have HA := Lib.hid hA
  have hn7 : n ≤ 70000 := by omega
  clear hn hA hl
  go_enter Tryd.func13, Tryd.ntmps13
  go_wp2
  go_loopw [3, 9] (fun vo vk wr => ∃ (k : Nat) (V : Option Addr) (q : Nat), vo = .slice V k q ∧ vk = .int .i64 (k : Int) ∧ Hid (k ≤ n) ∧
      Hid (wr.ownsRow w.heap.size 44 5 (.slice V k q) k (flatT (l.take k))) ∧ Hid (Below w.heap.size w wr))
    (fun _ vk _ => n - (intOf vk).toNat)
  case atStart =>
    exact ⟨0, _, _, rfl, rfl, Lib.hid (by omega), Lib.hid (own_empty w _ _), Lib.hid ((Below.refl _ w).alloc (Nat.le_refl _) _)⟩
  case round =>
    obtain ⟨k, V, q, rfl, rfl, HK, HO, HB⟩ := hrel
    by_cases hk : k < n
    · obtain ⟨b, off, rfl, hb, q0, q1, q2, q3, q4⟩ := tok_cells (HA.out.on HB.out) (k := k) (by rw [HN.out]; exact hk)
      obtain ⟨T, hT⟩ : ∃ T, l[k]'(by rw [HN.out]; exact hk) = T := ⟨_, rfl⟩
      rw [hT] at q0 q1 q2 q3 q4
      have htk : l.take (k + 1) = l.take k ++ [T] := by rw [List.take_succ_eq_append_getElem (by rw [HN.out]; exact hk), hT]
      have HTK := Lib.hid htk
      clear hT htk
      go_wp2_with (refine wpList_store_tok wr.heap.size _ T (heap_alloc_new _ _) rfl _ _ rfl rfl rfl rfl ?_; refine Hid.out ?_)
      refine Lib.hid ?_
      have hb2 := below_setRow ((Below.refl _ wr).alloc (Nat.le_refl _) (.cells #[.int .i64 0, .string ⟨#[]⟩, .int .u64 0, .int .i64 0, .int .i64 0] 39)) (Nat.le_refl _) (tokC T)
      have hg2 : Blk ((wr.alloc (.cells #[.int .i64 0, .string ⟨#[]⟩, .int .u64 0, .int .i64 0, .int .i64 0] 39)).setRow wr.heap.size (tokC T)) wr.heap.size 39 (tokC T) := heap_setRow _ _ _ _ _ _ (heap_alloc_new _ _)
      obtain ⟨g, hg⟩ : ∃ g, wr.heap.size = g := ⟨_, rfl⟩
      obtain ⟨w2, hw2⟩ : ∃ w2, (wr.alloc (.cells #[.int .i64 0, .string ⟨#[]⟩, .int .u64 0, .int .i64 0, .int .i64 0] 39)).setRow wr.heap.size (tokC T) = w2 := ⟨_, rfl⟩
      rw [hw2] at hb2 hg2 ⊢
      have HB2 := Lib.hid (HB.out.trans (Joins.below_le hb2 HB.out.size))
      have HO2 := Lib.hid ((Kept.below hb2).own HO.out (fun j hj => by have := (HO.out.lt j hj).2; omega))
      rw [hg] at hg2 ⊢
      have HG2 := Lib.hid hg2
      clear hw2 hb2 hg2 q0 q1 q2 q3 q4 hg
      have p0 : w2.cell? ⟨g, 0, none⟩ = some (.int .i64 T.kind) := HG2.out.cell 0
      have p1 : w2.cell? ⟨g, 1, none⟩ = some (.string T.text) := HG2.out.cell 1
      have p2 : w2.cell? ⟨g, 2, none⟩ = some (.int .u64 T.num) := HG2.out.cell 2
      have p3 : w2.cell? ⟨g, 3, none⟩ = some (.int .i64 T.at_) := HG2.out.cell 3
      have p4 : w2.cell? ⟨g, 4, none⟩ = some (.int .i64 T.line) := HG2.out.cell 4
      have hk1 : (k : Int) + 1 ≤ 70000 := by omega
      go_wp2_with (at_builtin; refine Hid.out ?_)
      refine Lib.hid ?_
      refine wpList_append_own_at _ rfl _ _ 27 rfl w.heap.size 44 i0 _ 5 48 Tryd.underlying27 hi0 hz0 hz1 hz2 rfl (by decide) (.slice V k q) k _ rfl (HO2.out.alloc _) ⟨w2.heap.size, 0, none⟩ 1 1 T.L rfl rfl (news_at _ (tokC T) _ _ rfl) (fun u hu => flatT_one' [T] u (by rw [flatT_one]; exact hu)) (by unfold maxLen; omega) (by omega) (Nat.le_trans HB2.out.size (by simp)) ?_
      intro v' w5 ho5 hg5 _ _
      obtain ⟨V', q', rfl⟩ := own_form ho5
      have hb5 : Below w.heap.size w w5 := (HB2.out.alloc HB2.out.size _).grown hg5 (by have := HB2.out.size; simp; omega) (fun j e => (HO2.out.lt j e).1)
      have HO5 := Lib.hid (show w5.ownsRow w.heap.size 44 5 (.slice V' (k + 1) q') (k + 1) (flatT (l.take (k + 1))) by rw [HTK.out, flatT_append, flatT_one]; exact ho5)
      have HB5 := Lib.hid hb5
      clear ho5 hg5 hb5 p0 p1 p2 p3 p4
      go_wp2_with fail
      go_round
      case rel => exact ⟨k + 1, V', q', rfl, by go_num, Lib.hid (by omega), HO5, HB5⟩
      case measure => simp [intOf]; omega
    · have hkn : k = n := by have := HK.out; omega
      subst hkn
      go_wp2_with fail
      go_ret
      have ho := HO.out
      rw [List.take_of_length_le (by rw [HN.out]; exact Nat.le_refl _)] at ho
      exact ⟨V, q, rfl, ho, HB.out⟩

set_option maxRecDepth 100000 in
set_option maxHeartbeats 2000000 in
/-- Of rows that are alike it tells so. -/
theorem same_calls (A B : Option Addr) (l m : List Tok) (c d : Nat) (w : World) (hA : TokAt w A l) (hB : TokAt w B m) (hc : l.map Tok.core = m.map Tok.core) (hl : l.length ≤ 70000) :
    Calls Tryd.prog 18 #[.slice A l.length c, .slice B m.length d] w fun e w' => e = .returned (.bool true) ∧ Below w.heap.size w w' := by
  have hlm : m.length = l.length := by have := congrArg List.length hc; simpa using this.symm
  rw [hlm]
  obtain ⟨n, hn⟩ : ∃ n, l.length = n := ⟨_, rfl⟩
  rw [hn] at hlm ⊢
  have HN := Lib.hid hn
  have HM := Lib.hid hlm
  have HA := Lib.hid hA
  have HBB := Lib.hid hB
  have HC := Lib.hid hc
  have hn7 : n ≤ 70000 := by omega
  clear hn hA hB hl hlm hc
  go_enter Tryd.func18, Tryd.ntmps18
  go_wp2
  go_loopw [5] (fun vk wr => ∃ (k : Nat), vk = .int .i64 (k : Int) ∧ Hid (k ≤ n) ∧ Hid (Below w.heap.size w wr))
    (fun vk _ => n - (intOf vk).toNat)
  case atStart => exact ⟨0, rfl, Lib.hid (by omega), Lib.hid (Below.refl _ w)⟩
  case round =>
    obtain ⟨k, rfl, HK, HB⟩ := hrel
    by_cases hk : k < n
    · have h1 := tok_cells (HA.out.on HB.out) (k := k) (by rw [HN.out]; exact hk)
      have h2 := tok_cells (HBB.out.on HB.out) (k := k) (by rw [HM.out]; exact hk)
      have hcore : (l[k]'(by rw [HN.out]; exact hk)).core = (m[k]'(by rw [HM.out]; exact hk)).core := by
        have := congrArg (fun x => x[k]?) HC.out
        simp only [List.getElem?_map] at this
        rw [List.getElem?_eq_getElem (by rw [HN.out]; exact hk), List.getElem?_eq_getElem (by rw [HM.out]; exact hk)] at this
        simpa using this
      obtain ⟨b1, o1, rfl, hb1, p0, p1, p2, -, -⟩ := h1
      obtain ⟨b2, o2, rfl, hb2, q0, q1, q2, -, -⟩ := h2
      obtain ⟨T, hT⟩ : ∃ T, l[k]'(by rw [HN.out]; exact hk) = T := ⟨_, rfl⟩
      obtain ⟨U, hU⟩ : ∃ U, m[k]'(by rw [HM.out]; exact hk) = U := ⟨_, rfl⟩
      rw [hT] at p0 p1 p2 hcore
      rw [hU] at q0 q1 q2 hcore
      unfold Tok.core at hcore
      injection hcore with e1 e2
      injection e2 with e2 e3
      rw [← e1] at q0
      rw [← e2] at q1
      rw [← e3] at q2
      clear hT hU e1 e2 e3
      have hk1 : (k : Int) + 1 ≤ 70000 := by omega
      go_wp2_with fail
      go_quiet (fail)
      go_wp2_with fail
      go_round
      case rel => exact ⟨k + 1, by go_num, Lib.hid (by omega), Lib.hid (below_drewN HB.out _)⟩
      case measure => simp [intOf]; omega
    · go_wp2_with fail
      go_ret
      exact ⟨rfl, HB.out⟩
end Go.Proofs.YtonihjijienigaaDoor
