/- Layer 3 (instr): the walk of InstrCodes. -/
import Derived.Test.YtkinnhdagdkhcaaDoorInsV
import Derived.Deep.RegionWith
namespace Go.Proofs.YtkinnhdagdkhcaaDoor
open Go.RowKit

def Good3 (w : World) (e : Ending) (w' : World) : Prop := e = .returned (.bool true) ∧ Kept (fun _ => False) w w'

theorem decErr_range (bs : List Int) : 0 ≤ decErr bs ∧ decErr bs ≤ 35 := by
  unfold decErr
  repeat' split
  all_goals omega

set_option maxRecDepth 100000 in
set_option maxHeartbeats 4000000 in
theorem codes_walk (A : Option Addr) (n c : Nat) (a : List InsD) (B : Option Addr) (m d : Nat) (bs : List Int) (w : World) (hn : a.length = n) (hnm : n ≤ maxLen) (ha : InsAt w A a) (hao : ∀ x ∈ a, x.Ok)
    (hm : bs.length = m) (hmm : m ≤ maxLen) (hb : BytesAt w B bs) (hbo : m ≤ d ∧ ByteL bs) (T : Tabs w) :
    Calls Tryd.prog 3 #[.slice A n c, .slice B m d] w (Good3 w) := by
  unfold maxLen at hnm hmm
  have HT := Lib.hid T
  have HA := Lib.hid (⟨hn, ha, fun x hx => (hao x hx).2.2.2.2⟩ : _ ∧ _ ∧ ∀ x ∈ a, 0 ≤ x.imm ∧ x.imm < 18446744073709551616)
  have HB := Lib.hid (⟨hm, hb, hbo.2⟩ : _ ∧ _ ∧ _)
  have hmd := hbo.1
  clear T hn ha hao hm hb hbo
  by_cases h600 : 600 < m
  · by_cases h1 : 40 < n
    · by_cases h2 : n ≤ 256
      · go_enter Tryd.func3, Tryd.ntmps3
        go_wp2_with fail
        refine (alive_calls _ HT.out).mono ?_
        rintro e w1 ⟨rfl, K1⟩
        go_wp2_with fail
        go_ret
        exact ⟨rfl, K1⟩
      · by_cases h3 : 260 < n
        · go_enter Tryd.func3, Tryd.ntmps3
          go_wp2_with fail
          refine (alive_calls _ HT.out).mono ?_
          rintro e w1 ⟨rfl, K1⟩
          go_wp2_with fail
          go_ret
          exact ⟨rfl, K1⟩
        · have h2' : 256 < n := by omega
          have h3' : n ≤ 260 := by omega
          go_enter Tryd.func3, Tryd.ntmps3
          go_wp2_with fail
          refine (alive_calls _ HT.out).mono ?_
          rintro e w1 ⟨rfl, K1⟩
          go_wp2_with fail
          go_ret
          exact ⟨rfl, K1⟩
    · have h1' : n ≤ 40 := by omega
      go_enter Tryd.func3, Tryd.ntmps3
      go_wp2_with fail
      refine (alive_calls _ HT.out).mono ?_
      rintro e w1 ⟨rfl, K1⟩
      go_wp2_with fail
      go_ret
      exact ⟨rfl, K1⟩
  have h6 : m ≤ 600 := by omega
  clear h600 hmm
  by_cases hmid : (40 < n ∧ n ≤ 256) ∨ 260 < n
  · by_cases h2 : n ≤ 256
    · have h1 : 40 < n := by omega
      clear hmid
      go_enter Tryd.func3, Tryd.ntmps3
      go_wp2_with fail
      refine (alive_calls _ HT.out).mono ?_
      rintro e w1 ⟨rfl, K1⟩
      go_wp2_with fail
      go_ret
      exact ⟨rfl, K1⟩
    · have h3 : 260 < n := by omega
      clear hmid
      go_enter Tryd.func3, Tryd.ntmps3
      go_wp2_with fail
      refine (alive_calls _ HT.out).mono ?_
      rintro e w1 ⟨rfl, K1⟩
      go_wp2_with fail
      go_ret
      exact ⟨rfl, K1⟩
  by_cases h256 : 256 < n
  · have h260 : n ≤ 260 := by omega
    clear hmid
    go_enter Tryd.func3, Tryd.ntmps3
    go_wp2_with fail
    refine (alive_calls _ HT.out).mono ?_
    rintro e w1 ⟨rfl, K1⟩
    have HK1 := Lib.hid K1
    clear K1
    go_wp2_with fail
    refine (encode_many A n c _ h256 (by unfold maxLen; omega)).mono ?_
    rintro e w' ⟨rfl, rfl⟩
    go_wp2_with fail
    refine (refCheck_calls _ A n c a HA.out.1 (by omega) (HA.out.2.1.kept HK1.out)).mono ?_
    rintro e w2 ⟨rfl, K2⟩
    have e3 : checkN n a = 3 := by unfold checkN; rw [if_pos h256]
    rw [e3]
    have HKZ := Lib.hid (HK1.out.trans K2)
    clear K2 e3
    go_wp2_with fail
    refine (decode_walk _ B m d bs HB.out.1 (by unfold maxLen; omega) hmd (HB.out.2.1.kept HKZ.out) HB.out.2.2 (HT.out.kept HKZ.out)).mono ?_
    intro e w7 hD
    obtain ⟨K7, hD⟩ := hD
    have HK7 := Lib.hid (HKZ.out.trans K7)
    clear K7
    rcases hD with ⟨h0, G, gc, rfl, hg, _⟩ | ⟨hne, rfl⟩
    · obtain ⟨_, _, _, hc256, _, _⟩ := dec_parts bs h0
      have HG := Lib.hid hg
      have H0 := Lib.hid h0
      clear hg h0
      go_wp2_with fail
      refine (refDecode_walk _ B m d bs HB.out.1 (by omega) hmd (HB.out.2.1.kept HK7.out) HB.out.2.2).mono ?_
      intro e w8 hD
      obtain ⟨K8, hD⟩ := hD
      have HK8 := Lib.hid (HK7.out.trans K8)
      have HK78 := Lib.hid K8
      clear K8
      obtain ⟨_, Y, yc, rfl, hy, _⟩ | ⟨hne, _⟩ := hD
      · have HY := Lib.hid hy
        clear hy
        obtain ⟨q, hq⟩ : ∃ q, cntL bs = q := ⟨_, rfl⟩
        rw [hq] at HG HY hc256 ⊢
        clear hq
        go_wp2_with fail
        refine (same_calls _ G Y q gc yc (insAll bs q) (insAll_length bs q) (by omega) (InsAt.of_own (HK78.out.own HG.out (fun _ _ h => h)) (insAll_length bs q)) (InsAt.of_own HY.out (insAll_length bs q))).mono ?_
        rintro e w9 ⟨rfl, K9⟩
        go_wp2_with fail
        go_ret
        exact ⟨rfl, HK8.out.trans K9⟩
      · exact absurd H0.out hne
    · obtain ⟨de, hde⟩ : ∃ de, decErr bs = de := ⟨_, rfl⟩
      have HNE := Lib.hid hne
      have HDE := Lib.hid hde
      rw [hde]
      clear hne hde
      go_wp2_with fail
      refine (refDecode_walk _ B m d bs HB.out.1 (by omega) hmd (HB.out.2.1.kept HK7.out) HB.out.2.2).mono ?_
      intro e w8 hD
      obtain ⟨K8, hD⟩ := hD
      have HK8 := Lib.hid (HK7.out.trans K8)
      clear K8
      obtain ⟨h0, _⟩ | ⟨_, rfl⟩ := hD
      · exact absurd h0 HNE.out
      · rw [HDE.out]
        have hbb : (de == de) = true := beq_self_eq_true de
        go_wp2_with fail
        refine (same_calls _ none none 0 0 0 [] rfl (by decide) (fun h => by cases h) (fun h => by cases h)).mono ?_
        rintro e w9 ⟨rfl, K9⟩
        go_wp2_with fail
        go_ret
        exact ⟨rfl, HK8.out.trans K9⟩
  · have h40 : n ≤ 40 := by omega
    clear hmid h256
    go_enter Tryd.func3, Tryd.ntmps3
    go_wp2_with fail
    refine (alive_calls _ HT.out).mono ?_
    rintro e w1 ⟨rfl, K1⟩
    have HK1 := Lib.hid K1
    clear K1
    go_wp2_with fail
    refine (encode_walk _ A n c a HA.out.1 (by omega) (HA.out.2.1.kept HK1.out) HA.out.2.2 (HT.out.kept HK1.out)).mono ?_
    intro e w2 hE
    obtain ⟨K2, hE⟩ := hE
    have HK2 := Lib.hid (HK1.out.trans K2)
    clear K2
    rcases hE with ⟨hall, X, xc, rfl, hx, _⟩ | ⟨hall, rfl⟩
    · rw [HA.out.1] at hx ⊢
      have HP := Lib.hid hall
      have HX := Lib.hid hx
      clear hall hx
      go_wp2_with fail
      refine (refCheck_calls _ A n c a HA.out.1 (by omega) (HA.out.2.1.kept HK2.out)).mono ?_
      rintro e w3 ⟨rfl, K3⟩
      have e3 : checkN n a = 0 := by unfold checkN; rw [if_neg (by omega), HP.out]; rfl
      rw [e3]
      have HK3 := Lib.hid (HK2.out.trans K3)
      have HX3 := Lib.hid (K3.own HX.out (fun _ _ h => h))
      clear K3 e3
      obtain ⟨sx, hsx⟩ : ∃ sx, strL (encL a) = sx := ⟨_, rfl⟩
      have HSX := Lib.hid hsx
      have HXV := Lib.hid (fun (W : World) (k : Kept (fun _ => False) w3 W) => (hsx ▸ conv_bytes W X (4 + 12 * n) xc (encL a) (by rw [encL_length, HA.out.1]) (fun h => by omega) (BytesAt.of_own (k.own HX3.out (fun _ _ h => h)) (by rw [encL_length, HA.out.1])) : (convert 23 9 (.slice X (4 + 12 * n) xc)).run Tryd.prog W = .ok (.string sx) W))
      have HBY := Lib.hid (refBytes_calls w3.drew A n c a HA.out.1 (by omega) (HA.out.2.1.kept HK3.out.drew) HA.out.2.2 HP.out)
      have hss : (sx.toList == sx.toList) = true := beq_self_eq_true _
      have HXD := Lib.hid (HXV.out w3.drew (Kept.refl _ _).drew)
      clear hsx
      go_wp2_with fail
      have vx3 := HXV.out w3.drew (Kept.refl _ _).drew
      go_region_with ((go_at_call 11; refine HBY.out.mono ?_; rintro e w4 ⟨Y, yc, rfl, hy, K4'⟩; have K4 := K4'.of_drew; have vy := conv_bytes w4 Y (4 + 12 * n) yc (encL a) (by rw [encL_length, HA.out.1]) (fun h => by omega) (BytesAt.of_own hy (by rw [encL_length, HA.out.1])); rw [HSX.out] at vy; have vx4 := HXV.out _ K4; clear hy K4'))
      all_goals
        have HKZ := Lib.hid (HK3.out.trans K4)
        clear K4 vy vx3 vx4 hss
        go_wp2_with fail
        refine (decode_walk _ B m d bs HB.out.1 (by unfold maxLen; omega) hmd (HB.out.2.1.kept HKZ.out) HB.out.2.2 (HT.out.kept HKZ.out)).mono ?_
        intro e w7 hD
        obtain ⟨K7, hD⟩ := hD
        have HK7 := Lib.hid (HKZ.out.trans K7)
        clear K7
        rcases hD with ⟨h0, G, gc, rfl, hg, _⟩ | ⟨hne, rfl⟩
        · obtain ⟨_, _, _, hc256, _, _⟩ := dec_parts bs h0
          have HG := Lib.hid hg
          have H0 := Lib.hid h0
          clear hg h0
          go_wp2_with fail
          refine (refDecode_walk _ B m d bs HB.out.1 (by omega) hmd (HB.out.2.1.kept HK7.out) HB.out.2.2).mono ?_
          intro e w8 hD
          obtain ⟨K8, hD⟩ := hD
          have HK8 := Lib.hid (HK7.out.trans K8)
          have HK78 := Lib.hid K8
          clear K8
          obtain ⟨_, Y, yc, rfl, hy, _⟩ | ⟨hne, _⟩ := hD
          · have HY := Lib.hid hy
            clear hy
            obtain ⟨q, hq⟩ : ∃ q, cntL bs = q := ⟨_, rfl⟩
            rw [hq] at HG HY hc256 ⊢
            clear hq
            go_wp2_with fail
            refine (same_calls _ G Y q gc yc (insAll bs q) (insAll_length bs q) (by omega) (InsAt.of_own (HK78.out.own HG.out (fun _ _ h => h)) (insAll_length bs q)) (InsAt.of_own HY.out (insAll_length bs q))).mono ?_
            rintro e w9 ⟨rfl, K9⟩
            go_wp2_with fail
            go_ret
            exact ⟨rfl, HK8.out.trans K9⟩
          · exact absurd H0.out hne
        · obtain ⟨de, hde⟩ : ∃ de, decErr bs = de := ⟨_, rfl⟩
          have HNE := Lib.hid hne
          have HDE := Lib.hid hde
          rw [hde]
          clear hne hde
          go_wp2_with fail
          refine (refDecode_walk _ B m d bs HB.out.1 (by omega) hmd (HB.out.2.1.kept HK7.out) HB.out.2.2).mono ?_
          intro e w8 hD
          obtain ⟨K8, hD⟩ := hD
          have HK8 := Lib.hid (HK7.out.trans K8)
          clear K8
          obtain ⟨h0, _⟩ | ⟨_, rfl⟩ := hD
          · exact absurd h0 HNE.out
          · rw [HDE.out]
            have hbb : (de == de) = true := beq_self_eq_true de
            go_wp2_with fail
            refine (same_calls _ none none 0 0 0 [] rfl (by decide) (fun h => by cases h) (fun h => by cases h)).mono ?_
            rintro e w9 ⟨rfl, K9⟩
            go_wp2_with fail
            go_ret
            exact ⟨rfl, HK8.out.trans K9⟩
    · go_wp2_with fail
      refine (refCheck_calls _ A n c a HA.out.1 (by omega) (HA.out.2.1.kept HK2.out)).mono ?_
      rintro e w3 ⟨rfl, K3⟩
      have e3 : checkN n a = 30 := by unfold checkN; rw [if_neg (by omega), hall]; rfl
      rw [e3]
      have HKZ := Lib.hid (HK2.out.trans K3)
      clear K3 e3 hall
      go_wp2_with fail
      refine (decode_walk _ B m d bs HB.out.1 (by unfold maxLen; omega) hmd (HB.out.2.1.kept HKZ.out) HB.out.2.2 (HT.out.kept HKZ.out)).mono ?_
      intro e w7 hD
      obtain ⟨K7, hD⟩ := hD
      have HK7 := Lib.hid (HKZ.out.trans K7)
      clear K7
      rcases hD with ⟨h0, G, gc, rfl, hg, _⟩ | ⟨hne, rfl⟩
      · obtain ⟨_, _, _, hc256, _, _⟩ := dec_parts bs h0
        have HG := Lib.hid hg
        have H0 := Lib.hid h0
        clear hg h0
        go_wp2_with fail
        refine (refDecode_walk _ B m d bs HB.out.1 (by omega) hmd (HB.out.2.1.kept HK7.out) HB.out.2.2).mono ?_
        intro e w8 hD
        obtain ⟨K8, hD⟩ := hD
        have HK8 := Lib.hid (HK7.out.trans K8)
        have HK78 := Lib.hid K8
        clear K8
        obtain ⟨_, Y, yc, rfl, hy, _⟩ | ⟨hne, _⟩ := hD
        · have HY := Lib.hid hy
          clear hy
          obtain ⟨q, hq⟩ : ∃ q, cntL bs = q := ⟨_, rfl⟩
          rw [hq] at HG HY hc256 ⊢
          clear hq
          go_wp2_with fail
          refine (same_calls _ G Y q gc yc (insAll bs q) (insAll_length bs q) (by omega) (InsAt.of_own (HK78.out.own HG.out (fun _ _ h => h)) (insAll_length bs q)) (InsAt.of_own HY.out (insAll_length bs q))).mono ?_
          rintro e w9 ⟨rfl, K9⟩
          go_wp2_with fail
          go_ret
          exact ⟨rfl, HK8.out.trans K9⟩
        · exact absurd H0.out hne
      · obtain ⟨de, hde⟩ : ∃ de, decErr bs = de := ⟨_, rfl⟩
        have HNE := Lib.hid hne
        have HDE := Lib.hid hde
        rw [hde]
        clear hne hde
        go_wp2_with fail
        refine (refDecode_walk _ B m d bs HB.out.1 (by omega) hmd (HB.out.2.1.kept HK7.out) HB.out.2.2).mono ?_
        intro e w8 hD
        obtain ⟨K8, hD⟩ := hD
        have HK8 := Lib.hid (HK7.out.trans K8)
        clear K8
        obtain ⟨h0, _⟩ | ⟨_, rfl⟩ := hD
        · exact absurd h0 HNE.out
        · rw [HDE.out]
          have hbb : (de == de) = true := beq_self_eq_true de
          go_wp2_with fail
          refine (same_calls _ none none 0 0 0 [] rfl (by decide) (fun h => by cases h) (fun h => by cases h)).mono ?_
          rintro e w9 ⟨rfl, K9⟩
          go_wp2_with fail
          go_ret
          exact ⟨rfl, HK8.out.trans K9⟩

end Go.Proofs.YtkinnhdagdkhcaaDoor
