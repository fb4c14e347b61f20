/- Layer 3 (instr): the walk of InstrBack. -/
import Derived.Test.YtkinnhdagdkhcaaDoorInsR
namespace Go.Proofs.YtkinnhdagdkhcaaDoor
open Go.RowKit

theorem BytesAt.take {w : World} {A : Option Addr} {l : List Int} (h : BytesAt w A l) (k : Nat) : BytesAt w A (l.take k) := fun h0 => by
  have : 0 < l.length := by simp at h0; omega
  obtain ⟨b, off, hA, hb, hc⟩ := h this
  refine ⟨b, off, hA, hb, fun j x hx => hc j x ?_⟩
  rw [List.getElem?_take] at hx
  split at hx
  · exact hx
  · cases hx

def Good2 (w : World) (e : Ending) (w' : World) : Prop := e = .returned (.bool true) ∧ Kept (fun _ => False) w w'

theorem and1023_bound (x : Int) : 0 ≤ bits BinOp.and IntKind.i64 x 1023 ∧ bits BinOp.and IntKind.i64 x 1023 ≤ 1023 := by
  have h : (BitVec.ofInt 64 x &&& BitVec.ofInt 64 1023).toNat ≤ 1023 := by
    rw [BitVec.toNat_and]
    exact Nat.and_le_right
  have e : bits BinOp.and IntKind.i64 x 1023 = IntKind.i64.wrap ((BitVec.ofInt 64 x &&& BitVec.ofInt 64 1023).toNat : Int) := rfl
  rw [e, IntKind.wrap_i64]
  omega

set_option maxRecDepth 100000 in
set_option maxHeartbeats 4000000 in
theorem back_walk (A : Option Addr) (n c : Nat) (a : List InsD) (B : Option Addr) (m d : Nat) (bs : List Int) (cut : Int) (w : World) (hn : a.length = n) (hnm : n ≤ maxLen) (ha : InsAt w A a) (hao : ∀ x ∈ a, x.Ok)
    (hm : bs.length = m) (hmm : m ≤ maxLen) (hb : BytesAt w B bs) (hbo : m ≤ d ∧ ByteL bs) (T : Tabs w) :
    Calls Tryd.prog 4 #[.slice A n c, .slice B m d, .int .i64 cut] w (Good2 w) := by
  unfold maxLen at hnm hmm
  have HT := Lib.hid T
  have HA := Lib.hid (⟨hn, ha, fun x hx => (hao x hx).2.2.2.2⟩ : _ ∧ _ ∧ ∀ x ∈ a, 0 ≤ x.imm ∧ x.imm < 18446744073709551616)
  have HB := Lib.hid (⟨hm, hb, hbo.2⟩ : _ ∧ _ ∧ _)
  have hmd := hbo.1
  clear T hn ha hao hm hb hbo
  by_cases h40 : 40 < n ∨ 600 < m
  · by_cases h1 : 40 < n
    · go_enter Tryd.func4, Tryd.ntmps4
      go_wp2_with fail
      refine (alive_calls _ HT.out).mono ?_
      rintro e w1 ⟨rfl, K1⟩
      go_wp2_with fail
      go_ret
      exact ⟨rfl, K1⟩
    · have h2 : 600 < m := by omega
      clear h40
      go_enter Tryd.func4, Tryd.ntmps4
      go_wp2_with fail
      refine (alive_calls _ HT.out).mono ?_
      rintro e w1 ⟨rfl, K1⟩
      go_wp2_with fail
      go_ret
      exact ⟨rfl, K1⟩
  have h1 : n ≤ 40 := by omega
  have h2 : m ≤ 600 := by omega
  clear h40 hnm hmm
  go_enter Tryd.func4, Tryd.ntmps4
  go_wp2_with fail
  refine (alive_calls _ HT.out).mono ?_
  rintro e w1 ⟨rfl, K1⟩
  have HK1 := Lib.hid K1
  clear K1
  go_wp2_with fail
  refine (encode_walk _ A n c a HA.out.1 (by omega) (HA.out.2.1.kept HK1.out) HA.out.2.2 (HT.out.kept HK1.out)).mono ?_
  intro e w2 hE
  obtain ⟨K2, hE⟩ := hE
  have HK2 := Lib.hid (HK1.out.trans K2)
  clear K2
  rcases hE with ⟨hall, X, xc, rfl, hx, _⟩ | ⟨hall, rfl⟩
  · rw [HA.out.1] at hx ⊢
    have HP := Lib.hid hall
    have HX := Lib.hid hx
    have hcap := own_cap hx
    obtain ⟨gx, rfl, hgx, _⟩ := own_at hx (by omega)
    clear hall hx
    go_wp2_with fail
    refine (decode_walk _ (some ⟨gx, 0, none⟩) (4 + 12 * n) xc (encL a) (by rw [encL_length, HA.out.1]) (by unfold maxLen; omega) hcap (BytesAt.of_own HX.out (by rw [encL_length, HA.out.1])) (encL_byte a HP.out (by rw [HA.out.1]; omega)) (HT.out.kept HK2.out)).mono ?_
    intro e w3 hD
    obtain ⟨K3, hD⟩ := hD
    have HK3 := Lib.hid (HK2.out.trans K3)
    have HK23 := Lib.hid K3
    clear K3
    have hde : decErr (encL a) = 0 := dec_enc a HA.out.2.2 HP.out (by rw [HA.out.1]; omega)
    obtain ⟨_, Y, yc, rfl, hy, _⟩ | ⟨hne, _⟩ := hD
    · rw [encL_cnt, insAll_enc a HA.out.2.2, HA.out.1] at hy
      rw [encL_cnt, HA.out.1]
      have HY := Lib.hid hy
      clear hde hy
      obtain ⟨q0, q1⟩ := and1023_bound cut
      have hl0 : (0 : Int) < 4 + 12 * (n : Int) := by omega
      obtain ⟨k, hk, hkl⟩ : ∃ k : Nat, bits BinOp.and IntKind.i64 cut 1023 % (4 + 12 * (n : Int)) = (k : Int) ∧ k < 4 + 12 * n := by
        have e0 := Int.emod_nonneg (bits BinOp.and IntKind.i64 cut 1023) (show (4 + 12 * (n : Int)) ≠ 0 by omega)
        have e1 := Int.emod_lt_of_pos (bits BinOp.and IntKind.i64 cut 1023) hl0
        exact ⟨(bits BinOp.and IntKind.i64 cut 1023 % (4 + 12 * (n : Int))).toNat, by omega, by omega⟩
      have hkc : k ≤ xc := by omega
      go_wp2_with fail
      refine (decode_walk _ (some ⟨gx, 0, none⟩) k xc ((encL a).take k) (by rw [List.length_take, encL_length, HA.out.1]; omega) (by unfold maxLen; omega) hkc (BytesAt.take (BytesAt.of_own (HK23.out.own HX.out (fun _ _ h => h)) (by rw [encL_length, HA.out.1])) k) ((encL_byte a HP.out (by rw [HA.out.1]; omega)).take k) (HT.out.kept HK3.out)).mono ?_
      intro e w4 hD
      obtain ⟨K4, hD⟩ := hD
      have HK4 := Lib.hid (HK3.out.trans K4)
      have HK24 := Lib.hid (HK23.out.trans K4)
      have HK34 := Lib.hid K4
      clear K4
      have hde := dec_short a (by rw [HA.out.1]; omega) k (by rw [HA.out.1]; exact hkl)
      rw [hde] at hD
      obtain ⟨h0, _⟩ | ⟨_, rfl⟩ := hD
      · cases h0
      clear hde hk
      obtain ⟨i0, hi0, hz0, hz1, hz2⟩ := info_parts' infoU8
      have HOE := Lib.hid ((World.ownsRow_lit (base := 0) (e := 5) (size := 1) w4 #[] 0 (Nat.zero_le _) (by decide) rfl))
      have HXC := Lib.hid (fun (W : World) (kp : Kept (fun _ => False) w4 W) (j : Nat) (u : Value) (hu : (bv (encL a))[j]? = some u) => ((HK24.out.trans kp).own HX.out (fun _ _ h => h)).cells (g := gx) rfl j u hu)
      have hbvl : (bv (encL a)).length = (4 + 12 * n) * 1 := by rw [bv_length, encL_length, HA.out.1, Nat.mul_one]
      have HBV := Lib.hid hbvl
      clear hbvl
      go_wp2_with (at_builtin; first
        | (refine wpList_append_own_at _ rfl (.tmp 53) (.tmp 54) 23 rfl 0 5 i0 _ 1 1 Tryd.underlying23 hi0 hz0 hz1 hz2 rfl (by decide) (.slice (some ⟨w4.heap.size, 0, none⟩) 0 0) 0 [] rfl HOE.out ⟨gx, 0, none⟩ (4 + 12 * n) xc (bv (encL a)) rfl HBV.out (HXC.out _ ((Kept.refl _ _).alloc _)) (bv_one _) (by unfold maxLen; omega) (by omega) (Nat.zero_le _) ?_; intro v5 w5 ho5 hg5 hi5 hat5; rw [Nat.zero_add, List.nil_append] at ho5; clear hi5; obtain ⟨A5, q5, rfl⟩ := own_form ho5)
        | (refine wpList_append_own_at _ rfl (.tmp 55) (.tmp 58) 23 rfl 0 5 i0 _ 1 1 Tryd.underlying23 hi0 hz0 hz1 hz2 rfl (by decide) (.slice A5 (4 + 12 * n) q5) (4 + 12 * n) _ rfl (ho5.alloc _) ⟨w5.heap.size, 0, none⟩ 1 1 (bv [_]) rfl rfl (news_at _ _ _ _ (by simp)) (bv_one _) (by unfold maxLen; omega) (by omega) (Nat.zero_le _) ?_; intro v6 w6 ho6 hg6 hi6 hat6; clear hi6; obtain ⟨A6, q6, rfl⟩ := own_form ho6))
      have f4 : ∀ x, (Value.slice (some (⟨w4.heap.size, 0, none⟩ : Addr)) 0 0).ownBlock = some x → w4.heap.size ≤ x := fun x hx => by simp [Value.ownBlock] at hx; omega
      have K5 : Kept (fun _ => False) w4 w5 := Kept.push ((Kept.refl _ _).alloc _) hg5 f4
      have f5 := fresh_push (v := .slice (some ⟨w4.heap.size, 0, none⟩) 0 0) ((Kept.refl (fun _ => False) w4).alloc (.cells #[] 5)) f4 hat5
      have K6 : Kept (fun _ => False) w4 w6 := Kept.push (K5.alloc _) hg6 f5
      rw [← bv_append] at ho6
      have HK6 := Lib.hid (HK4.out.trans K6)
      have HK36 := Lib.hid (HK34.out.trans K6)
      have HO6 := Lib.hid ho6
      have hc6 := own_cap ho6
      clear f4 K5 f5 K6 ho5 ho6 hg5 hg6 hat5 hat6
      refine (decode_walk _ A6 (4 + 12 * n + 1) q6 (encL a ++ [cut % 256]) (by rw [List.length_append, encL_length, HA.out.1]; rfl) (by unfold maxLen; omega) hc6 (BytesAt.of_own HO6.out (by rw [List.length_append, encL_length, HA.out.1]; rfl)) (fun x hx => by
        rcases List.mem_append.1 hx with hx | hx
        · exact encL_byte a HP.out (by rw [HA.out.1]; omega) x hx
        · rw [List.mem_singleton] at hx
          omega) (HT.out.kept HK6.out)).mono ?_
      intro e w9 hD
      obtain ⟨K9, hD⟩ := hD
      have HK9 := Lib.hid (HK6.out.trans K9)
      have HK39 := Lib.hid (HK36.out.trans K9)
      clear K9
      have hde := dec_more a (by rw [HA.out.1]; omega) (cut % 256)
      rw [hde] at hD
      obtain ⟨h0, _⟩ | ⟨_, rfl⟩ := hD
      · cases h0
      clear hde
      go_wp2_with fail
      refine (same_calls _ Y A n yc c a HA.out.1 (by omega) (InsAt.of_own (HK39.out.own HY.out (fun _ _ h => h)) HA.out.1) (HA.out.2.1.kept HK9.out)).mono ?_
      rintro e wz ⟨rfl, KZ⟩
      have HKZ := Lib.hid (HK9.out.trans KZ)
      clear KZ
      go_wp2_with fail
      refine (decode_walk _ B m d bs HB.out.1 (by unfold maxLen; omega) hmd (HB.out.2.1.kept HKZ.out) HB.out.2.2 (HT.out.kept HKZ.out)).mono ?_
      intro e w7 hD
      obtain ⟨K7, hD⟩ := hD
      have HK7 := Lib.hid (HKZ.out.trans K7)
      clear K7
      obtain ⟨h0, G, gc, rfl, hg, _⟩ | ⟨hne, rfl⟩ := hD
      · obtain ⟨_, _, _, hc256, hbl, hpl⟩ := dec_parts bs h0
        have hed := enc_dec bs HB.out.2.2 h0
        have him := insAll_imm bs HB.out.2.2 (cntL bs)
        obtain ⟨q, hq⟩ : ∃ q, cntL bs = q := ⟨_, rfl⟩
        obtain ⟨L, hL⟩ : ∃ L, insAll bs q = L := ⟨_, rfl⟩
        have hLl : L.length = q := by rw [← hL, insAll_length]
        rw [hq] at hg hc256 hbl hpl hed him ⊢
        rw [hL] at hg hpl hed him
        have HG := Lib.hid hg
        have HL := Lib.hid (⟨hLl, hpl, hed, him, hbl⟩ : _ ∧ _ ∧ _ ∧ _ ∧ _)
        clear hg hLl hpl hed him hbl hq hL h0
        go_wp2_with fail
        refine (encode_walk _ G q gc L HL.out.1 hc256 (InsAt.of_own HG.out HL.out.1) HL.out.2.2.2.1 (HT.out.kept HK7.out)).mono ?_
        intro e w8 hE
        obtain ⟨K8, hE⟩ := hE
        have HK8 := Lib.hid (HK7.out.trans K8)
        clear K8
        obtain ⟨_, Z, zc, rfl, hz, _⟩ | ⟨hall, _⟩ := hE
        · have hmq : m = 4 + 12 * q := by rw [← HB.out.1]; exact HL.out.2.2.2.2
          rw [HL.out.1, HL.out.2.2.1] at hz
          rw [HL.out.1]
          obtain ⟨gz, rfl, _, _⟩ := own_at hz (by omega)
          have v1 := conv_bytes w8 (some ⟨gz, 0, none⟩) (4 + 12 * q) zc bs (by rw [HB.out.1, hmq]) (fun h => by omega) (BytesAt.of_own hz (by rw [HB.out.1, hmq]))
          have v2 := conv_bytes w8 B m d bs HB.out.1 (fun h => by omega) (HB.out.2.1.kept HK8.out)
          generalize strL bs = sb at *
          have hsb : (sb.toList == sb.toList) = true := beq_self_eq_true _
          have HMQ := Lib.hid hmq
          clear hz hmq
          go_wp2_with fail
          go_ret
          exact ⟨rfl, HK8.out⟩
        · rw [HL.out.2.1] at hall
          cases hall
      · have hb1 : (decErr bs == 0) = false := by simpa using hne
        have hb2 : (!(decErr bs == 0)) = true := by rw [hb1]; rfl
        generalize decErr bs = de at *
        clear hne
        go_wp2_with fail
        go_ret
        exact ⟨rfl, HK7.out⟩
    · exact absurd hde hne
  · have HKZ := Lib.hid HK2.out
    go_wp2_with fail
    refine (decode_walk _ B m d bs HB.out.1 (by unfold maxLen; omega) hmd (HB.out.2.1.kept HKZ.out) HB.out.2.2 (HT.out.kept HKZ.out)).mono ?_
    intro e w7 hD
    obtain ⟨K7, hD⟩ := hD
    have HK7 := Lib.hid (HKZ.out.trans K7)
    clear K7
    obtain ⟨h0, G, gc, rfl, hg, _⟩ | ⟨hne, rfl⟩ := hD
    · obtain ⟨_, _, _, hc256, hbl, hpl⟩ := dec_parts bs h0
      have hed := enc_dec bs HB.out.2.2 h0
      have him := insAll_imm bs HB.out.2.2 (cntL bs)
      obtain ⟨q, hq⟩ : ∃ q, cntL bs = q := ⟨_, rfl⟩
      obtain ⟨L, hL⟩ : ∃ L, insAll bs q = L := ⟨_, rfl⟩
      have hLl : L.length = q := by rw [← hL, insAll_length]
      rw [hq] at hg hc256 hbl hpl hed him ⊢
      rw [hL] at hg hpl hed him
      have HG := Lib.hid hg
      have HL := Lib.hid (⟨hLl, hpl, hed, him, hbl⟩ : _ ∧ _ ∧ _ ∧ _ ∧ _)
      clear hg hLl hpl hed him hbl hq hL h0
      go_wp2_with fail
      refine (encode_walk _ G q gc L HL.out.1 hc256 (InsAt.of_own HG.out HL.out.1) HL.out.2.2.2.1 (HT.out.kept HK7.out)).mono ?_
      intro e w8 hE
      obtain ⟨K8, hE⟩ := hE
      have HK8 := Lib.hid (HK7.out.trans K8)
      clear K8
      obtain ⟨_, Z, zc, rfl, hz, _⟩ | ⟨hall, _⟩ := hE
      · have hmq : m = 4 + 12 * q := by rw [← HB.out.1]; exact HL.out.2.2.2.2
        rw [HL.out.1, HL.out.2.2.1] at hz
        rw [HL.out.1]
        obtain ⟨gz, rfl, _, _⟩ := own_at hz (by omega)
        have v1 := conv_bytes w8 (some ⟨gz, 0, none⟩) (4 + 12 * q) zc bs (by rw [HB.out.1, hmq]) (fun h => by omega) (BytesAt.of_own hz (by rw [HB.out.1, hmq]))
        have v2 := conv_bytes w8 B m d bs HB.out.1 (fun h => by omega) (HB.out.2.1.kept HK8.out)
        generalize strL bs = sb at *
        have hsb : (sb.toList == sb.toList) = true := beq_self_eq_true _
        have HMQ := Lib.hid hmq
        clear hz hmq
        go_wp2_with fail
        go_ret
        exact ⟨rfl, HK8.out⟩
      · rw [HL.out.2.1] at hall
        cases hall
    · have hb1 : (decErr bs == 0) = false := by simpa using hne
      have hb2 : (!(decErr bs == 0)) = true := by rw [hb1]; rfl
      generalize decErr bs = de at *
      clear hne
      go_wp2_with fail
      go_ret
      exact ⟨rfl, HK7.out⟩

end Go.Proofs.YtkinnhdagdkhcaaDoor
