/- Layer 2 (glyph): the document's Number, Sign. -/
import Derived.Test.YtonihjijienigaaDoorGlQ
namespace Go.Proofs.YtonihjijienigaaDoor
open Go.RowKit

theorem parse_app_bad (M : Nat) : ∀ (a b : List UInt8) (acc : Nat), (∀ u, Lib.parseUintM M acc a ≠ .ok u) → ∀ u, Lib.parseUintM M acc (a ++ b) ≠ .ok u := by
  intro a
  induction a with
  | nil => intro b acc h; exact absurd rfl (h acc)
  | cons c a ih =>
    intro b acc h u
    rw [List.cons_append]
    simp only [Lib.parseUintM] at h ⊢
    split
    · rename_i h1
      rw [if_pos h1] at h
      split
      · intro e; cases e
      · rename_i h2
        rw [if_neg h2] at h
        split
        · intro e; cases e
        · rename_i h3
          rw [if_neg h3] at h
          exact ih b _ h u
    · intro e; cases e
theorem numP_over {p : ByteArray} (h : ∀ u, Lib.parseUintB 64 p.data.toList ≠ .ok u) : numP p = (tok0, 22) := by
  unfold numP
  split
  · rename_i u hu; exact absurd hu (h u)
  · rfl
theorem numP_lead {p : ByteArray} (h1 : 1 < p.size) (h : (p.get! 0).toNat = 48) : numP p = (tok0, 22) := by
  unfold numP
  split
  · rw [if_pos ⟨h1, h⟩]
  · rfl
theorem numP_good {p : ByteArray} {n : Nat} (h0 : 0 < p.size) (hp : Lib.parseUintM 18446744073709551615 0 p.data.toList = .ok n) (h : 1 < p.size → (p.get! 0).toNat ≠ 48) : numP p = (⟨1, ⟨#[]⟩, n, 0, 0⟩, 0) := by
  have hne : p.data.toList ≠ [] := by
    intro e
    have := congrArg List.length e
    rw [Array.length_toList] at this
    have h0' : 0 < p.data.size := h0
    simp at this
    rw [this] at h0'
    simp at h0'
  have hb : Lib.parseUintB 64 p.data.toList = .ok n := by
    unfold Lib.parseUintB
    rw [if_neg hne]
    exact hp
  unfold numP
  rw [hb]
  simp only
  rw [if_neg (fun ⟨h1, h2⟩ => h h1 h2)]
theorem parse_step (M : Nat) (l : List UInt8) (k n : Nat) (hk : k < l.length) (h : Lib.parseUintM M 0 (l.take k) = .ok n) : Lib.parseUintM M 0 (l.take (k + 1)) = Lib.parseUintM M n [l[k]] := by
  rw [List.take_succ_eq_append_getElem hk, parse_snoc _ _ _ _ _ h]
theorem parse_none (M : Nat) (l : List UInt8) (k : Nat) (h : ∀ u, Lib.parseUintM M 0 (l.take k) ≠ .ok u) : ∀ u, Lib.parseUintM M 0 l ≠ .ok u := by
  intro u
  have := parse_app_bad M (l.take k) (l.drop k) 0 h u
  rwa [List.take_append_drop] at this
theorem parseB_none {p : ByteArray} (h : ∀ u, Lib.parseUintM 18446744073709551615 0 p.data.toList ≠ .ok u) : ∀ u, Lib.parseUintB 64 p.data.toList ≠ .ok u := by
  intro u
  unfold Lib.parseUintB
  split
  · intro e; cases e
  · exact h u

def RefNum (p : ByteArray) (e : Ending) : Prop := ∃ (v : Nat) (b : Bool), e = .returned (.tuple #[.int .u64 v, .bool b]) ∧ (b = true → numP p = (⟨1, ⟨#[]⟩, v, 0, 0⟩, 0)) ∧ (b = false → numP p = (tok0, 22))
set_option maxRecDepth 100000 in
set_option maxHeartbeats 2000000 in
theorem refNumber_calls (p : ByteArray) (w : World) (hs : p.size ≤ 70000) (h0 : 0 < p.size) :
    Calls Tryd.prog 49 #[.string p] w fun e w' => RefNum p e ∧ w = w' := by
  have hz : p.data.toList.length = p.size := Array.length_toList
  have hat : ∀ k, (h : k < p.size) → p.data.toList[k]'(by rw [hz]; exact h) = p[k] := fun k h => rfl
  have hg0 := Utf8W.get!_of_lt p 0 h0
  have HZ := Lib.hid hz
  have HAT := Lib.hid hat
  have HG0 := Lib.hid hg0
  clear hg0
  go_enter Tryd.func49, Tryd.ntmps49
  go_wp2
  go_loop [4, 5] (fun vn vk => ∃ (n k : Nat), vn = .int .u64 (n : Int) ∧ vk = .int .i64 (k : Int) ∧ k ≤ p.size ∧ Hid (Lib.parseUintM 18446744073709551615 0 (p.data.toList.take k) = .ok n) ∧ Hid (1 < k → (p[0].toNat : Int) ≠ 48)) (fun _ vk => p.size - (intOf vk).toNat)
  case atStart => exact ⟨0, 0, rfl, rfl, Nat.zero_le _, Lib.hid rfl, Lib.hid (fun h => by omega)⟩
  case round =>
    obtain ⟨n, k, rfl, rfl, hk, HP, HL⟩ := hrel
    by_cases hlt : k < p.size
    · have HD := Lib.hid (refDigit_calls ((p[k].toNat : Nat) : Int))
      obtain ⟨d, hd⟩ : ∃ d, digitB ((p[k].toNat : Nat) : Int) = d := ⟨_, rfl⟩
      have HDB := Lib.hid hd
      clear hd
      cases d
      · have hbad : numP p = (tok0, 22) := by
          refine numP_over (parseB_none fun u hu => ?_)
          have := parse_dgs _ _ _ _ hu p[k] (by rw [← HAT.out k hlt]; exact List.getElem_mem _)
          rw [digitB_of this] at HDB
          exact absurd HDB.out (by decide)
        have HBAD := Lib.hid hbad
        clear hbad
        go_wp2_with (go_at_call 48; refine (HD.out _).mono ?_; rw [HDB.out]; rintro e w' ⟨rfl, rfl⟩)
        go_ret2
        exact ⟨⟨0, false, rfl, (fun h => by cases h), fun _ => HBAD.out⟩, rfl⟩
      · have hdg : 48 ≤ p[k].toNat ∧ p[k].toNat ≤ 57 := by
          have := of_decide_eq_true HDB.out
          omega
        obtain ⟨hd1, hd2⟩ := hdg
        have h8 : (p[k].toNat : Int) < 256 := by omega
        by_cases hlead : k = 1 ∧ p[0].toNat = 48
        · obtain ⟨rfl, h48⟩ := hlead
          have hbad : numP p = (tok0, 22) := numP_lead hlt (by rw [HG0.out]; exact h48)
          have HBAD := Lib.hid hbad
          have n48 : (((p[0].toNat : Nat) : Int) == 48) = true := by rw [h48]; rfl
          clear hbad h48 HP HL
          go_wp2_with (go_at_call 48; refine (HD.out _).mono ?_; rw [HDB.out]; rintro e w' ⟨rfl, rfl⟩)
          go_ret2
          exact ⟨⟨0, false, rfl, (fun h => by cases h), fun _ => HBAD.out⟩, rfl⟩
        · have hstep := parse_step _ p.data.toList k n (by rw [HZ.out]; exact hlt) HP.out
          rw [HAT.out k hlt] at hstep
          have HST := Lib.hid hstep
          have hl2 : 1 < k + 1 → (p[0].toNat : Int) ≠ 48 := fun h1 e => by
            rcases Nat.lt_or_ge 1 k with h | h
            · exact HL.out h e
            · exact hlead ⟨by omega, by omega⟩
          have HL2 := Lib.hid hl2
          have HLD := Lib.hid hlead
          clear hstep hl2 hlead
          by_cases hov : 1844674407370955161 < n ∨ (n = 1844674407370955161 ∧ 5 < p[k].toNat - 48)
          · have hbad : numP p = (tok0, 22) := by
              refine numP_over (parseB_none (parse_none _ _ (k + 1) fun u hu => ?_))
              rw [HST.out] at hu
              simp only [Lib.parseUintM] at hu
              rw [if_pos ⟨hd1, hd2⟩] at hu
              split at hu
              · cases hu
              · split at hu
                · cases hu
                · omega
            have HBAD := Lib.hid hbad
            clear hbad
            clear HST HP HL HL2
            obtain ⟨b1, hb1⟩ : ∃ b, (((k : Nat) : Int) == 1) = b := ⟨_, rfl⟩
            have hn48 : b1 = true → (((p[0].toNat : Nat) : Int) == 48) = false := fun hb => beq_eq_false_iff_ne.2 (fun e => HLD.out ⟨by rw [hb] at hb1; have := of_decide_eq_true hb1; omega, by omega⟩)
            have HN48 := Lib.hid hn48
            clear hn48
            rcases hov with hov | ⟨rfl, hov⟩
            · have g1 : (1844674407370955161 : Int) < (n : Int) := by omega
              clear hov
              cases b1
              · go_wp2_with (go_at_call 48; refine (HD.out _).mono ?_; rw [HDB.out]; rintro e w' ⟨rfl, rfl⟩)
                go_ret2
                exact ⟨⟨0, false, rfl, (fun h => by cases h), fun _ => HBAD.out⟩, rfl⟩
              · have n48 := HN48.out rfl
                go_wp2_with (go_at_call 48; refine (HD.out _).mono ?_; rw [HDB.out]; rintro e w' ⟨rfl, rfl⟩)
                go_ret2
                exact ⟨⟨0, false, rfl, (fun h => by cases h), fun _ => HBAD.out⟩, rfl⟩
            · have g1 : (5 : Int) < (p[k].toNat : Int) - 48 := by omega
              have g2 : (48 : Int) ≤ (p[k].toNat : Int) := by omega
              have g3 : (p[k].toNat : Int) ≤ 57 := by omega
              clear hov
              cases b1
              · go_wp2_with (go_at_call 48; refine (HD.out _).mono ?_; rw [HDB.out]; rintro e w' ⟨rfl, rfl⟩)
                go_ret2
                exact ⟨⟨0, false, rfl, (fun h => by cases h), fun _ => HBAD.out⟩, rfl⟩
              · have n48 := HN48.out rfl
                go_wp2_with (go_at_call 48; refine (HD.out _).mono ?_; rw [HDB.out]; rintro e w' ⟨rfl, rfl⟩)
                go_ret2
                exact ⟨⟨0, false, rfl, (fun h => by cases h), fun _ => HBAD.out⟩, rfl⟩
          · have hn : n ≤ 1844674407370955161 := by omega
            have hnn : 10 * n + (p[k].toNat - 48) ≤ 18446744073709551615 := by omega
            have hgo : Lib.parseUintM 18446744073709551615 0 (p.data.toList.take (k + 1)) = .ok (10 * n + (p[k].toNat - 48)) := by
              rw [HST.out]
              simp only [Lib.parseUintM]
              rw [if_pos ⟨hd1, hd2⟩, if_neg (by omega), if_neg (by omega), Nat.mul_comm n 10]
            have HGO := Lib.hid hgo
            clear hgo
            clear hov
            have g1 : ¬ (1844674407370955161 : Int) < (n : Int) := by omega
            have g2 : (48 : Int) ≤ (p[k].toNat : Int) := by omega
            have g3 : (p[k].toNat : Int) ≤ 57 := by omega
            have g4 : (10 : Int) * (n : Int) ≤ 18446744073709551610 := by omega
            have g5 : (10 : Int) * (n : Int) + ((p[k].toNat : Int) - 48) ≤ 18446744073709551615 := by omega
            have hcast : (10 : Int) * (n : Int) + ((p[k].toNat : Int) - 48) = ((10 * n + (p[k].toNat - 48) : Nat) : Int) := by omega
            have HC := Lib.hid hcast
            clear hcast hn hnn
            obtain ⟨b1, hb1⟩ : ∃ b, (((k : Nat) : Int) == 1) = b := ⟨_, rfl⟩
            have hn48 : b1 = true → (((p[0].toNat : Nat) : Int) == 48) = false := fun hb => beq_eq_false_iff_ne.2 (fun e => HLD.out ⟨by rw [hb] at hb1; have := of_decide_eq_true hb1; omega, by omega⟩)
            have HN48 := Lib.hid hn48
            obtain ⟨bX, hbX⟩ : ∃ b, (((n : Nat) : Int) == 1844674407370955161) = b := ⟨_, rfl⟩
            have h5 : bX = true → ¬ (5 : Int) < (p[k].toNat : Int) - 48 := fun hb => by rw [hb] at hbX; have := of_decide_eq_true hbX; omega
            have HX := Lib.hid h5
            clear hn48 h5
            have fin : (∃ (n' k' : Nat), Value.int .u64 (10 * (n : Int) + ((p[k].toNat : Int) - 48)) = .int .u64 (n' : Int) ∧ Value.int .i64 ((k : Int) + 1) = .int .i64 (k' : Int) ∧ k' ≤ p.size ∧ Hid (Lib.parseUintM 18446744073709551615 0 (p.data.toList.take k') = .ok n') ∧ Hid (1 < k' → (p[0].toNat : Int) ≠ 48)) :=
              ⟨10 * n + (p[k].toNat - 48), k + 1, by rw [HC.out], by go_num, by omega, HGO, HL2⟩
            have FIN := Lib.hid fin
            clear fin
            clear HST HP HL HL2 HGO HAT HZ hat hz
            cases b1
            all_goals
              try have n48 := HN48.out rfl
              cases bX
              all_goals
                try have h5 := HX.out rfl
                go_wp2_with (go_at_call 48; refine (HD.out _).mono ?_; rw [HDB.out]; rintro e w' ⟨rfl, rfl⟩)
                go_round
                case rel => exact FIN.out
                case measure => simp [intOf]; omega
    · have hkn : k = p.size := by omega
      subst hkn
      have hgood : numP p = (⟨1, ⟨#[]⟩, n, 0, 0⟩, 0) := by
        have h := HP.out
        rw [List.take_of_length_le (by rw [HZ.out]; exact Nat.le_refl _)] at h
        exact numP_good h0 h (fun h1 => by have := HL.out h1; rw [HG0.out]; omega)
      have HGD := Lib.hid hgood
      clear hgood
      go_wp2_with fail
      go_ret2
      exact ⟨⟨n, true, rfl, fun _ => HGD.out, (fun h => by cases h)⟩, rfl⟩

theorem sign_str (p : ByteArray) (h : isSign p = true) : ∃ k, k < 12 ∧ sgAt k = p := by
  apply Classical.byContradiction
  intro hc
  have := isSign_not p (fun j hj e => hc ⟨j, hj, e⟩)
  rw [h] at this
  cases this
set_option maxRecDepth 100000 in
set_option maxHeartbeats 2000000 in
theorem refSign_calls (p : ByteArray) (w : World) :
    Calls Tryd.prog 40 #[.string p] w fun e w' => e = .returned (.bool (isSign p)) ∧ w = w' := by
  cases hb : isSign p
  · have hn : ∀ j, j < 12 → p ≠ sgAt j := fun j hj e => by
      rw [isSign_of p j hj e.symm] at hb
      cases hb
    have q0 : (p.toList == [226, 134, 144]) = false := by have h := toList_ne (hn 0 (by omega)); rw [Lib.toList_data (sgAt 0)] at h; exact h
    have q1 : (p.toList == [43]) = false := by have h := toList_ne (hn 1 (by omega)); rw [Lib.toList_data (sgAt 1)] at h; exact h
    have q2 : (p.toList == [45]) = false := by have h := toList_ne (hn 2 (by omega)); rw [Lib.toList_data (sgAt 2)] at h; exact h
    have q3 : (p.toList == [195, 151]) = false := by have h := toList_ne (hn 3 (by omega)); rw [Lib.toList_data (sgAt 3)] at h; exact h
    have q4 : (p.toList == [37]) = false := by have h := toList_ne (hn 4 (by omega)); rw [Lib.toList_data (sgAt 4)] at h; exact h
    have q5 : (p.toList == [61]) = false := by have h := toList_ne (hn 5 (by omega)); rw [Lib.toList_data (sgAt 5)] at h; exact h
    have q6 : (p.toList == [60]) = false := by have h := toList_ne (hn 6 (by omega)); rw [Lib.toList_data (sgAt 6)] at h; exact h
    have q7 : (p.toList == [91]) = false := by have h := toList_ne (hn 7 (by omega)); rw [Lib.toList_data (sgAt 7)] at h; exact h
    have q8 : (p.toList == [93]) = false := by have h := toList_ne (hn 8 (by omega)); rw [Lib.toList_data (sgAt 8)] at h; exact h
    have q9 : (p.toList == [58]) = false := by have h := toList_ne (hn 9 (by omega)); rw [Lib.toList_data (sgAt 9)] at h; exact h
    have q10 : (p.toList == [36]) = false := by have h := toList_ne (hn 10 (by omega)); rw [Lib.toList_data (sgAt 10)] at h; exact h
    have q11 : (p.toList == [44]) = false := by have h := toList_ne (hn 11 (by omega)); rw [Lib.toList_data (sgAt 11)] at h; exact h
    clear hn hb
    go_enter Tryd.func40, Tryd.ntmps40
    go_wp2
    go_ret
    exact ⟨rfl, rfl⟩
  · obtain ⟨k, hk, rfl⟩ := sign_str p hb
    clear hb
    rcases (show k = 0 ∨ k = 1 ∨ k = 2 ∨ k = 3 ∨ k = 4 ∨ k = 5 ∨ k = 6 ∨ k = 7 ∨ k = 8 ∨ k = 9 ∨ k = 10 ∨ k = 11 by omega) with rfl | rfl | rfl | rfl | rfl | rfl | rfl | rfl | rfl | rfl | rfl | rfl
    all_goals
      clear hk
      simp only [sgAt, sgL, List.getD_cons_zero, List.getD_cons_succ]
      go_enter Tryd.func40, Tryd.ntmps40
      go_wp2
      go_ret
      exact ⟨rfl, rfl⟩
end Go.Proofs.YtonihjijienigaaDoor
