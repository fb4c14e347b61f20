/- Layer 2 (glyph): GlyphPlaces, the walk. -/
import Derived.Test.YtonihjijienigaaDoorGlN
import Derived.Test.YtonihjijienigaaDoorGlV
import Derived.Test.YtonihjijienigaaDoorGlS
namespace Go.Proofs.YtonihjijienigaaDoor
open Go.RowKit Go.Shelf

theorem place_ok (s : ByteArray) (hs : s.size ≤ 600) : ((lexP s).2.2 = 0 → (lexP s).2.1 = 0 ∧ Placed s.data.toList 0 0 (lexP s).1 ∧ (lexP s).1.length ≤ 600 ∧ ∀ t ∈ (lexP s).1, ∃ p, Good t p) ∧
    ((lexP s).2.2 ≠ 0 → (lexP s).1 = [] ∧ ∃ p : Nat, (lexP s).2.1 = (p : Int) ∧ p < s.size ∧ ∀ k, k ≤ p → (k = 0 ∨ (s.data.toList.getD (k - 1) 0).toNat = 10) → (lexP (Bq (s.data.toList.take k))).2.2 = 0 ∧ (lexP (Bq (s.data.toList.take k))).2.1 = 0) := by
  have hsz : s.data.toList.length = s.size := Array.length_toList
  rw [lexP_T s (by omega)]
  have hcl := T_clean _ s.data.toList 0 0 (Nat.lt_succ_self _)
  refine ⟨fun h => ⟨hcl.1 h, ?_, ?_, (T_goods _ s.data.toList 0 0 (Nat.lt_succ_self _)).1⟩, fun h => ⟨hcl.2 h, ?_⟩⟩
  · have := T_placed s.data.toList _ 0 0 (Nat.lt_succ_self _) (Nat.zero_le _) (by rw [List.drop_zero]; exact h)
    rwa [List.drop_zero] at this
  · have := T_count _ s.data.toList 0 0 (Nat.lt_succ_self _)
    omega
  · obtain ⟨p, hp, _, hpl, hk⟩ := T_ahead s.data.toList _ 0 0 (Nat.lt_succ_self _) (Nat.zero_le _) (by rw [List.drop_zero]; exact h)
    rw [List.drop_zero] at hp
    refine ⟨p, hp, by omega, fun k hkp hor => ?_⟩
    have h2 := hk k 0 (Nat.zero_le _) hkp hor
    rw [List.drop_zero, Nat.sub_zero] at h2
    have hl : (s.data.toList.take k).length ≤ 600 := by rw [List.length_take]; omega
    rw [lexP_T _ (by rw [Bq_size]; omega), Bq_data]
    exact ⟨h2, (T_clean _ _ 0 0 (Nat.lt_succ_self _)).1 h2⟩

set_option maxRecDepth 100000 in
set_option maxHeartbeats 4000000 in
theorem places_walk (s : ByteArray) (_ : s.size ≤ maxLen) (w : World) (hL : LibV w) :
    Calls Tryd.prog 8 #[.string s] w fun e w' => e = .returned (.bool true) ∧ Below w.heap.size w w' := by
  have HAL := Lib.hid (alive_calls w hL)
  have HL := Lib.hid hL
  clear hL
  by_cases hs : 600 < s.size
  · have hs' : (600 : Int) < s.size := by omega
    go_enter Tryd.func8, Tryd.ntmps8
    go_wp2_with (go_at_call 9; refine HAL.out.mono ?_; rintro e w1 ⟨rfl, hb1⟩)
    go_ret
    exact ⟨rfl, hb1⟩
  · have hs' : ¬ (600 : Int) < s.size := by omega
    have hs6 : (s.size : Int) ≤ 600 := by omega
    have hpo := place_ok s (by omega)
    obtain ⟨ts, at_, er, hlx⟩ : ∃ ts at_ er, lexP s = (ts, at_, er) := ⟨_, _, _, rfl⟩
    rw [hlx] at hpo
    have HPO := Lib.hid hpo
    have HLX := Lib.hid hlx
    have HS := Lib.hid hs
    clear hpo hlx hs
    go_enter Tryd.func8, Tryd.ntmps8
    go_wp2_with (go_at_call 9; refine HAL.out.mono ?_; rintro e w1 ⟨rfl, hb1⟩; refine Hid.out ?_)
    refine Lib.hid ?_
    have h1 := lex_calls s (by have := HS.out; omega) w1 (HL.out.on hb1)
    rw [HLX.out] at h1
    have H1 := Lib.hid h1
    have HB1 := Lib.hid hb1
    clear h1 hb1
    go_wp2_with (go_at_call 10; refine H1.out.mono ?_; rintro e w2 ⟨A2, c2, rfl, ho2, hb2⟩; refine Hid.out ?_)
    refine Lib.hid ?_
    have HB2 := Lib.hid (HB1.out.trans (Joins.below_le hb2 HB1.out.size))
    have HO2 := Lib.hid ho2
    clear hb2 ho2 H1 HB1
    by_cases he : er = 0
    · subst he
      obtain ⟨hat, hpl, hln, hgd⟩ := HPO.out.1 rfl
      have hat : at_ = 0 := hat
      have hpl : Placed s.data.toList 0 0 ts := hpl
      have hln : ts.length ≤ 600 := hln
      have hgd : ∀ t ∈ ts, ∃ p, Good t p := hgd
      subst hat
      have HTK := Lib.hid (TokAt.of_own HO2.out rfl : TokAt w2 A2 ts)
      obtain ⟨n, hn⟩ : ∃ n, ts.length = n := ⟨_, rfl⟩
      rw [hn] at hln ⊢
      have HN := Lib.hid hn
      have HGD := Lib.hid hgd
      have HPL := Lib.hid hpl
      clear hn hgd hpl HPO
      go_wp2_with fail
      go_loopw [10, 11, 62] (fun va vl vk wr => ∃ (k last line : Nat), va = .int .i64 (last : Int) ∧ vl = .int .i64 (line : Int) ∧ vk = .int .i64 (k : Int) ∧ Hid (k ≤ n ∧ line ≤ k ∧ last ≤ s.size) ∧
          Hid (Placed s.data.toList last line (ts.drop k)) ∧ Hid (Below w.heap.size w wr) ∧ Hid (Below w2.heap.size w2 wr))
        (fun _ _ vk _ => n - (intOf vk).toNat)
      case atStart => exact ⟨0, 0, 0, rfl, rfl, rfl, Lib.hid ⟨by omega, by omega, by omega⟩, Lib.hid HPL.out, HB2, Lib.hid (Below.refl _ _)⟩
      case round =>
        obtain ⟨k, last, line, rfl, rfl, rfl, HK, HP, HB, HBT⟩ := hrel
        by_cases hk : k < n
        · obtain ⟨b, off, rfl, hb, q0, q1, q2, q3, q4⟩ := tok_cells (HTK.out.on HBT.out) (k := k) (by rw [HN.out]; exact hk)
          obtain ⟨U, hU⟩ : ∃ U, ts[k]'(by rw [HN.out]; exact hk) = U := ⟨_, rfl⟩
          have hdr : ts.drop k = U :: ts.drop (k + 1) := by rw [List.drop_eq_getElem_cons (by rw [HN.out]; exact hk), hU]
          have hmem : U ∈ ts := hU ▸ List.getElem_mem _
          have hp := HP.out
          rw [hdr] at hp
          obtain ⟨p, hp1, hp2, hp3, hp4, hp5, hp6, hp7, hp8⟩ := hp
          rw [hU] at q0 q1 q2 q3 q4
          rw [hp1] at q3
          rw [hp2] at q4
          obtain ⟨pc, hg⟩ := HGD.out U hmem
          have hsz : s.data.toList.length = s.size := Array.length_toList
          rw [hsz] at hp5
          have hone : printP [U] true = wrP U := by
            rw [printP, if_neg (by omega), if_neg (by simp)]
            simp [printP]
          obtain ⟨Wd, hWd⟩ : ∃ Wd, wrP U = Wd := ⟨_, rfl⟩
          rw [hWd] at hone hp4 hp5 hp6 hp8
          obtain ⟨m, hm⟩ : ∃ m, Wd.length = m := ⟨_, rfl⟩
          rw [hm] at hp4 hp5 hp6 hp8
          have hext : s.extract p (p + m) = Bq Wd := by rw [extract_Bq, Nat.add_sub_cancel_left, hp6]
          have HOK := Lib.hid (show TokOk 70000 U from ⟨hg.num, hg.text⟩)
          have HP8 := Lib.hid hp8
          have HM := Lib.hid hm
          have HONE := Lib.hid hone
          have HEX := Lib.hid hext
          have HKD := Lib.hid hp7
          clear hdr hmem hU hp8 hm hone hp6 hg hWd hsz hext hp7
          have r1 : ¬ ((p : Int) < last) := by omega
          have r2 : ¬ ((s.size : Int) ≤ p) := by omega
          go_wp2_with (refine wpList_store_tok wr.heap.size _ U (heap_alloc_new _ _) rfl _ _ rfl rfl rfl (by unfold tokV; rw [hp1, hp2]; rfl) ?_; refine Hid.out ?_)
          refine Lib.hid ?_
          have hb3 := below_setRow ((Below.refl _ wr).alloc (Nat.le_refl _) (.cells #[.int .i64 0, .string ⟨#[]⟩, .int .u64 0, .int .i64 0, .int .i64 0] 39)) (Nat.le_refl _) (tokC U)
          have hg3 : Blk ((wr.alloc (.cells #[.int .i64 0, .string ⟨#[]⟩, .int .u64 0, .int .i64 0, .int .i64 0] 39)).setRow wr.heap.size (tokC U)) wr.heap.size 39 (tokC U) := heap_setRow _ _ _ _ _ _ (heap_alloc_new _ _)
          obtain ⟨g, hg⟩ : ∃ g, wr.heap.size = g := ⟨_, rfl⟩
          obtain ⟨w3, hw3⟩ : ∃ w3, (wr.alloc (.cells #[.int .i64 0, .string ⟨#[]⟩, .int .u64 0, .int .i64 0, .int .i64 0] 39)).setRow wr.heap.size (tokC U) = w3 := ⟨_, rfl⟩
          rw [hw3] at hb3 hg3 ⊢
          have HB3 := Lib.hid (HB.out.trans (Joins.below_le hb3 HB.out.size))
          have HBT3 := Lib.hid (HBT.out.trans (Joins.below_le hb3 HBT.out.size))
          rw [hg] at hg3 ⊢
          have HG3 := Lib.hid hg3
          have p0 : w3.cell? ⟨g, 0, none⟩ = some (.int .i64 U.kind) := hg3.cell 0
          have p1 : w3.cell? ⟨g, 1, none⟩ = some (.string U.text) := hg3.cell 1
          have p2 : w3.cell? ⟨g, 2, none⟩ = some (.int .u64 U.num) := hg3.cell 2
          have p3 : w3.cell? ⟨g, 3, none⟩ = some (.int .i64 (p : Int)) := by rw [← hp1]; exact hg3.cell 3
          have p4 : w3.cell? ⟨g, 4, none⟩ = some (.int .i64 (line : Int)) := by rw [← hp2]; exact hg3.cell 4
          have htk : TokAt (w3.alloc (.cells (tokC U) 39)) (some ⟨w3.heap.size, 0, none⟩) [U] := fun _ => by
            refine ⟨w3.heap.size, 0, rfl, by simp, fun k t hk j u hu => ?_⟩
            have hk0 : k = 0 := by
              have := (List.getElem?_eq_some_iff.1 hk).1
              simpa using this
            subst hk0
            have ht : U = t := by simpa using hk
            subst ht
            have := news_at w3 (tokC U) 39 w3.heap.size rfl j u hu
            rw [addr_off] at this
            simpa using this
          have hpr := print_calls (some ⟨w3.heap.size, 0, none⟩) [U] 1 _ htk (by simp) (fun t ht => by rw [List.mem_singleton] at ht; subst ht; exact HOK.out) (HL.out.on (HB3.out.alloc HB3.out.size _))
          rw [HONE.out] at hpr
          unfold tokC at hpr
          rw [hp1, hp2] at hpr
          have HPR := Lib.hid hpr
          have HZ := Lib.hid hp2
          have HY := Lib.hid hp1
          clear hw3 hb3 hg3 hpr htk q0 q1 q2 q3 q4 hg hp1 hp2
          go_wp2_with (go_at_call 16; refine HPR.out.mono ?_; rintro e w4 ⟨rfl, hb4⟩; refine Hid.out ?_)
          refine Lib.hid ?_
          have hbw : Below w3.heap.size w3 w4 := ((Below.refl _ w3).alloc (Nat.le_refl _) _).trans (Joins.below_le hb4 (by simp))
          have HB4 := Lib.hid (HB3.out.trans (Joins.below_le hbw HB3.out.size))
          have HBT4 := Lib.hid (HBT3.out.trans (Joins.below_le hbw HBT3.out.size))
          have hg4 := HG3.out.below hbw HG3.out.lt
          have z0 : w4.cell? ⟨g, 0, none⟩ = some (.int .i64 U.kind) := hg4.cell 0
          have z3 : w4.cell? ⟨g, 3, none⟩ = some (.int .i64 (p : Int)) := by rw [← HY.out]; exact hg4.cell 3
          have hwz : (ByteArray.mk Wd.toArray).size = m := by rw [← HM.out]; rfl
          clear hbw hg4 hb4 p0 p1 p2 p3 p4
          have e1 : ((m : Int) == 0) = false := by simpa using hp4
          have e2 : ((s.extract p (p + m)).toList == Wd) = true := by
            rw [HEX.out, Lib.toList_data, Bq_data]; simp
          have hl1 : (line : Int) + 1 ≤ 700 := by have := HK.out.2.1; omega
          have hk1 : (k : Int) + 1 ≤ 700 := by omega
          by_cases h3 : U.kind = 3
          · have n3 : (U.kind == 3) = true := by simpa using h3
            have hp9 := HP8.out
            rw [if_pos h3] at hp9
            have HP9 := Lib.hid hp9
            clear h3 hp9
            go_wp2_with fail
            go_round
            case rel =>
              exact ⟨k + 1, p + m, line + 1, by go_num, by go_num, by go_num, Lib.hid ⟨by omega, by have := HK.out.2.1; omega, by omega⟩, HP9, HB4, HBT4⟩
            case measure => simp [intOf]; omega
          · have n3 : (U.kind == 3) = false := by simpa using h3
            have hp9 := HP8.out
            rw [if_neg h3] at hp9
            have HP9 := Lib.hid hp9
            clear h3 hp9
            go_wp2_with fail
            go_round
            case rel =>
              exact ⟨k + 1, p + m, line, by go_num, rfl, by go_num, Lib.hid ⟨by omega, by have := HK.out.2.1; omega, by omega⟩, HP9, HB4, HBT4⟩
            case measure => simp [intOf]; omega
        · go_wp2_with fail
          go_ret
          exact ⟨rfl, HB.out⟩
    · obtain ⟨hnil, p, hp, hpl, hk⟩ := HPO.out.2 he
      have hp : at_ = (p : Int) := hp
      subst hp
      have hnil : ts = [] := hnil
      subst hnil
      have HPL := Lib.hid hpl
      have HKK := Lib.hid hk
      have n0 : (er == 0) = false := by simpa using he
      have n1 : (er != 0) = true := by simpa using he
      clear hk hpl HPO he
      have hp6 : (p : Int) ≤ 600 := by have := HPL.out; omega
      go_wp2_with fail
      go_loopw [6] (fun vk wr => ∃ (k : Nat), vk = .int .i64 (k : Int) ∧ Hid (k ≤ p) ∧ Hid (w2 = wr))
        (fun vk _ => (intOf vk).toNat)
      case atStart => exact ⟨p, rfl, Lib.hid (Nat.le_refl _), Lib.hid rfl⟩
      case round =>
        obtain ⟨k, rfl, HK, HW⟩ := hrel
        have hw := HW.out
        subst hw
        have hkp : k ≤ p := HK.out
        have fin : (k = 0 ∨ (s.data.toList.getD (k - 1) 0).toNat = 10) → ∀ W, W = w2 → Calls Tryd.prog 10 #[.string (s.extract 0 k)] W fun e w' => ∃ A ts' c, e = .returned (.tuple #[.slice A ts' c, .int .i64 0, .int .i64 0]) ∧ Below w2.heap.size w2 w' := fun hor W hW => by
          subst hW
          obtain ⟨g1, g2⟩ := HKK.out k hkp hor
          have e1 : s.extract 0 k = Bq (s.data.toList.take k) := by rw [extract_Bq, List.drop_zero, Nat.sub_zero]
          rw [e1]
          have hz : (Bq (s.data.toList.take k)).size ≤ 65536 := by
            have : s.data.toList.length = s.size := Array.length_toList
            rw [Bq_size, List.length_take]; omega
          refine (lex_calls (Bq (s.data.toList.take k)) hz W (HL.out.on HB2.out)).mono ?_
          rintro e w' ⟨A, c, rfl, _, hb⟩
          exact ⟨A, _, c, by rw [g1, g2], hb⟩
        have FIN := Lib.hid fin
        have hkz : (k : Int) ≤ s.size := by have := HPL.out; omega
        have hpz : (p : Int) < s.size := by have := HPL.out; omega
        clear fin
        by_cases hk0 : k = 0
        · subst hk0
          have hc := FIN.out (.inl rfl) w2 rfl
          rw [show s.extract 0 0 = ByteArray.empty by simp] at hc
          have HC := Lib.hid hc
          clear hc
          go_wp2_with (go_at_call 10; refine Hid.out ?_)
          refine Lib.hid ?_
          refine HC.out.mono ?_
          rintro e w3 ⟨A3, ts3, c3, rfl, hb3⟩
          go_wp2_with fail
          go_ret
          exact ⟨rfl, HB2.out.trans (Joins.below_le hb3 HB2.out.size)⟩
        · obtain ⟨j, rfl⟩ : ∃ j, k = j + 1 := ⟨k - 1, by omega⟩
          have hjs : j < s.size := by have := HPL.out; omega
          have hgd : s.data.toList.getD j 0 = s[j] := by
            rw [← get!_getD, Utf8W.get!_of_lt s j hjs]
          by_cases h10 : (s.data.toList.getD j 0).toNat = 10
          · have HC := Lib.hid (FIN.out (.inr (by simpa using h10)) w2 rfl)
            rw [hgd] at h10
            have n10 : (((s[j].toNat : Nat) : Int) != 10) = false := by rw [h10]; rfl
            have m10 : (((s[j].toNat : Nat) : Int) == 10) = true := by rw [h10]; rfl
            clear h10 hgd
            go_wp2_with (go_at_call 10; refine Hid.out ?_)
            refine Lib.hid ?_
            refine HC.out.mono ?_
            rintro e w3 ⟨A3, ts3, c3, rfl, hb3⟩
            go_wp2_with fail
            go_ret
            exact ⟨rfl, HB2.out.trans (Joins.below_le hb3 HB2.out.size)⟩
          · rw [hgd] at h10
            have n10 : (((s[j].toNat : Nat) : Int) != 10) = true := by simpa using (fun h : ((s[j].toNat : Nat) : Int) = 10 => h10 (by exact_mod_cast h))
            have m10 : (((s[j].toNat : Nat) : Int) == 10) = false := by simpa using (fun h : ((s[j].toNat : Nat) : Int) = 10 => h10 (by exact_mod_cast h))
            clear h10 hgd
            go_wp2_with fail
            go_round
            case rel => exact ⟨j, by go_num, Lib.hid (by omega), Lib.hid trivial⟩
            case measure => simp [intOf]
end Go.Proofs.YtonihjijienigaaDoor
