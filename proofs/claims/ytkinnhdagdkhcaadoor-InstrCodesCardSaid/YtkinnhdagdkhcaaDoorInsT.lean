/- Layer 3 (instr): the document's All, Check, Num, Get, Bytes. -/
import Derived.Test.YtkinnhdagdkhcaaDoorInsR
namespace Go.Proofs.YtkinnhdagdkhcaaDoor
open Go.RowKit

theorem insV_eq (d : InsD) : insV d = .agg #[.int .i64 d.op, .int .i64 d.a, .int .i64 d.b, .int .i64 d.c, .int .u64 d.imm] := rfl

set_option maxRecDepth 100000 in
theorem refAll_calls (w : World) (A : Option Addr) (n c : Nat) (l : List InsD) (hn : l.length = n) (hm : n ≤ 1000) (hl : InsAt w A l) :
    Calls Tryd.prog 23 #[.slice A n c] w fun e w' => e = .returned (.bool (l.all plainB)) ∧ Kept (fun _ => False) w w' := by
  have HN := Lib.hid hn
  have HL := Lib.hid hl
  clear hn hl
  go_enter Tryd.func23, Tryd.ntmps23
  go_wp2_with fail
  go_loopw [3] (fun i wr' => ∃ (k : Nat) (W : World), W = wr' ∧ k ≤ n ∧ i = .int .i64 k ∧ (l.take k).all plainB = true ∧ Kept (fun _ => False) w W) (fun i _ => n - (intOf i).toNat)
  case atStart => exact ⟨0, _, rfl, by omega, rfl, rfl, Kept.refl _ _⟩
  case round =>
    obtain ⟨k, W, rfl, hk, rfl, hp, K⟩ := hrel
    have HK := Lib.hid K
    have HP := Lib.hid hp
    clear K hp
    by_cases hlt : k < n
    · have hlt' : k < l.length := by have := HN.out; omega
      obtain ⟨b1, o1, hA1, hb1, c0, c1, c2, c3, c4⟩ := ins_cells (HL.out.kept HK.out) hlt'
      subst hA1
      have hPl := refPlain_calls l[k] W
      rw [insV_eq] at hPl
      cases hpl : plainB l[k]
      · rw [hpl] at hPl
        have HB := Lib.hid hpl
        clear hpl
        go_wp2_with fail
        refine hPl.mono ?_
        rintro e w2 ⟨rfl, K2⟩
        have HK2 := Lib.hid (HK.out.trans K2)
        clear K2 hPl
        go_wp2_with fail
        go_ret
        have e : l.all plainB = false := by
          rw [List.all_eq_false]
          exact ⟨l[k], List.getElem_mem _, by rw [HB.out]; decide⟩
        rw [e]
        exact ⟨rfl, HK2.out⟩
      · rw [hpl] at hPl
        have HB := Lib.hid hpl
        clear hpl
        go_wp2_with fail
        refine hPl.mono ?_
        rintro e w2 ⟨rfl, K2⟩
        have HK2 := Lib.hid (HK.out.trans K2)
        clear K2 hPl
        go_wp2_with fail
        refine ⟨⟨k + 1, w2, rfl, by omega, rfl, ?_, HK2.out⟩, by simp [intOf]; omega⟩
        rw [List.take_succ_eq_append_getElem hlt', List.all_append, HP.out]
        simp [HB.out]
    · have hkn : k = n := by omega
      subst hkn
      go_wp2_with fail
      go_ret
      have e : l.all plainB = true := by
        have := HP.out
        rwa [List.take_of_length_le (by rw [HN.out]; exact Nat.le_refl _)] at this
      rw [e]
      exact ⟨rfl, HK.out⟩

def checkN (n : Nat) (l : List InsD) : Int := if 256 < n then 3 else if l.all plainB = true then 0 else 30
theorem refCheck_calls (w : World) (A : Option Addr) (n c : Nat) (l : List InsD) (hn : l.length = n) (hm : n ≤ 1000) (hl : InsAt w A l) :
    Calls Tryd.prog 10 #[.slice A n c] w fun e w' => e = .returned (.int .i64 (checkN n l)) ∧ Kept (fun _ => False) w w' := by
  have hAl := refAll_calls w A n c l hn hm hl
  by_cases h : 256 < n
  · have e : checkN n l = 3 := by unfold checkN; rw [if_pos h]
    rw [e]
    clear hn hl e hAl
    go_enter Tryd.func10, Tryd.ntmps10
    go_wp2_with fail
    go_ret
    exact ⟨rfl, Kept.refl _ _⟩
  · cases hp : l.all plainB
    · have e : checkN n l = 30 := by unfold checkN; rw [if_neg h, hp]; rfl
      rw [e]
      rw [hp] at hAl
      have h' : n ≤ 256 := by omega
      clear hn hl e hp h
      go_enter Tryd.func10, Tryd.ntmps10
      go_wp2_with fail
      refine hAl.mono ?_
      rintro e w2 ⟨rfl, K2⟩
      go_wp2_with fail
      go_ret
      exact ⟨rfl, K2⟩
    · have e : checkN n l = 0 := by unfold checkN; rw [if_neg h, hp]; rfl
      rw [e]
      rw [hp] at hAl
      have h' : n ≤ 256 := by omega
      clear hn hl e hp h
      go_enter Tryd.func10, Tryd.ntmps10
      go_wp2_with fail
      refine hAl.mono ?_
      rintro e w2 ⟨rfl, K2⟩
      go_wp2_with fail
      go_ret
      exact ⟨rfl, K2⟩

set_option maxRecDepth 100000 in
set_option maxHeartbeats 1000000 in
theorem refNum_calls (w : World) (x : Int) (s : Nat) (h0 : 0 ≤ x) (h1 : x < 18446744073709551616) (hs : s ≤ 8) :
    Calls Tryd.prog 24 #[.int .u64 x, .int .i64 (s : Int)] w fun e w' => ∃ A c, e = .returned (.slice A s c) ∧ w'.ownsRow 0 5 1 (.slice A s c) s (bv (immL x s)) ∧ (∀ y, (Value.slice A s c).ownBlock = some y → w.heap.size ≤ y) ∧ Kept (fun _ => False) w w' := by
  obtain ⟨i0, hi0, hz0, hz1, hz2⟩ := info_parts' infoU8
  go_enter Tryd.func24, Tryd.ntmps24
  go_wp2_with fail
  go_loopw [0, 5, 6] (fun v o i wr' => ∃ (k : Nat) (A : Option Addr) (q : Nat) (W : World), W = wr' ∧ k ≤ s ∧ v = .int .u64 (x / 2 ^ (8 * k)) ∧ o = .slice A k q ∧ i = .int .i64 k ∧ W.ownsRow 0 5 1 (.slice A k q) k (bv (immL x k)) ∧ (∀ y, (Value.slice A k q).ownBlock = some y → w.heap.size ≤ y) ∧ Kept (fun _ => False) w W) (fun _ _ i _ => s - (intOf i).toNat)
  case atStart => exact ⟨0, some ⟨w.heap.size, 0, none⟩, 0, _, rfl, by omega, by simp, rfl, rfl, World.ownsRow_lit (base := 0) (e := 5) (size := 1) w #[] 0 (Nat.zero_le _) (by decide) rfl, fun y hy => by simp [Value.ownBlock] at hy; omega, (Kept.refl _ _).alloc _⟩
  case round =>
    obtain ⟨k, A, q, W, rfl, hk, rfl, rfl, rfl, ho, hf, K⟩ := hrel
    have HO := Lib.hid ho
    have HF := Lib.hid hf
    have HK := Lib.hid K
    clear ho hf K
    by_cases hlt : k < s
    · have e0 : 0 ≤ x / 2 ^ (8 * k) := Int.ediv_nonneg h0 (Int.pow_nonneg (by omega))
      have e1 : x / 2 ^ (8 * k) / 256 = x / 2 ^ (8 * (k + 1)) := by
        rw [Int.ediv_ediv_of_nonneg (Int.pow_nonneg (by omega)), show 8 * (k + 1) = 8 * k + 8 by omega, Int.pow_add]
        rfl
      have HE := Lib.hid e1
      clear e1
      have hb := immL_succ x k
      have HB := Lib.hid hb
      clear hb
      have e2 : x / 2 ^ (8 * k) < 18446744073709551616 := Int.lt_of_le_of_lt (Int.ediv_le_self _ h0) h1
      generalize hX : x / 2 ^ (8 * k) = X at *
      have HX := Lib.hid hX
      clear hX
      go_wp2_with (at_builtin; refine wpList_append_own_at _ rfl (.tmp 13) (.tmp 17) 23 rfl 0 5 i0 _ 1 1 Tryd.underlying23 hi0 hz0 hz1 hz2 rfl (by decide) (.slice A k q) k _ rfl (HO.out.alloc _) ⟨W.heap.size, 0, none⟩ 1 1 (bv [_]) rfl rfl (news_at _ _ _ _ (by simp)) (bv_one _) (by unfold maxLen; omega) (by omega) (Nat.zero_le _) ?_; intro v5 w5 ho5 hg5 hi5 hat5; clear hi5; obtain ⟨A5, q5, rfl⟩ := own_form ho5)
      have F5 := fresh_push (HK.out.alloc _) HF.out hat5
      have K5 := Kept.push (HK.out.alloc _) hg5 HF.out
      refine ⟨⟨k + 1, A5, q5, w5, rfl, by omega, by rw [← HE.out], rfl, rfl, ?_, F5, K5⟩, by simp [intOf]; omega⟩
      rw [HB.out, bv_append]
      exact ho5
    · have hkn : k = s := by omega
      subst hkn
      go_wp2_with fail
      go_ret
      exact ⟨A, q, rfl, HO.out, HF.out, HK.out⟩

end Go.Proofs.YtkinnhdagdkhcaaDoor
