/- Layer 2 (glyph): the document's Digits and Print; GlyphPrints, the walk. -/
import Derived.Test.YtonihjijienigaaDoorGlN
import Derived.Test.YtonihjijienigaaDoorGlS
import Derived.Test.YtonihjijienigaaDoorGlAd
namespace Go.Proofs.YtonihjijienigaaDoor
open Go.RowKit Go.Shelf

theorem tdiv10 (u : Nat) : Int.tdiv (u : Int) 10 = ((u / 10 : Nat) : Int) := by
  rw [Int.tdiv_eq_ediv_of_nonneg (by omega)]
  omega

set_option maxRecDepth 100000 in
set_option maxHeartbeats 2000000 in
theorem refDigits_calls (n : Nat) (hn : n < 18446744073709551616) (w : World) :
    Calls Tryd.prog 27 #[.int .u64 (n : Int)] w fun e w' => e = .returned (.string (Bq (Lib.decDigits n))) ∧ Below w.heap.size w w' := by
  have hdl := decDigits_le n hn
  obtain ⟨D, hD⟩ : ∃ D, Lib.decDigits n = D := ⟨_, rfl⟩
  rw [hD] at hdl ⊢
  have HD := Lib.hid hD
  have HDL := Lib.hid hdl
  clear hD hdl
  go_enter Tryd.func27, Tryd.ntmps27
  go_wp2
  go_loopw [0, 3] (fun v0 v3 wr => ∃ (u : Nat) (S : List UInt8), v0 = .int .u64 (u : Int) ∧ v3 = .string (Bq S) ∧ Hid (u < 18446744073709551616 ∧ (S ≠ [] → 0 < u)) ∧ Hid (Lib.decDigits u ++ S = D) ∧ Hid (Below w.heap.size w wr))
    (fun v0 v3 _ => (intOf v0).toNat)
  case atStart => exact ⟨n, [], rfl, rfl, Lib.hid ⟨hn, fun h => absurd rfl h⟩, Lib.hid (by rw [List.append_nil]; exact HD.out), Lib.hid (Below.refl _ w)⟩
  case round =>
    obtain ⟨u, S, rfl, rfl, HU, HS, HB⟩ := hrel
    have hu := HU.out.1
    have hSl : S.length ≤ 20 := by
      have := congrArg List.length HS.out
      rw [List.length_append] at this
      have := HDL.out
      omega
    obtain ⟨b, hbv⟩ : ∃ b : UInt8, b = UInt8.ofNat (48 + u % 10) := ⟨_, rfl⟩
    have hbn : b.toNat = 48 + u % 10 := by rw [hbv, dgByte _ (Nat.mod_lt _ (by omega))]
    have hcv := conv_one wr b (48 + (u : Int) % 10) (by omega)
    have had := fun W => add_run (Bq [b]) (Bq S) (Bq (b :: S)) (Bq_append [b] S) (by rw [Bq_size, Bq_size]; simp; omega) W
    have HBV := Lib.hid hbv
    clear hbv hbn
    by_cases h9 : 9 < u
    · have h9' : (9 : Int) < u := by omega
      have hd : Lib.decDigits (u / 10) ++ b :: S = D := by
        rw [← HS.out]
        conv => rhs; rw [Lib.decDigits, dif_neg (show ¬ u < 10 by omega)]
        rw [HBV.out]
        simp
      have hq : (((u / 10 : Nat) : Int) == 0) = false := by
        have : (((u / 10 : Nat) : Int)) ≠ 0 := by omega
        simpa using this
      have hqq := tdiv10 u
      have HD2 := Lib.hid hd
      clear hd
      go_wp2_with fail
      go_round
      case rel => exact ⟨u / 10, b :: S, rfl, rfl, Lib.hid ⟨by omega, fun _ => by omega⟩, HD2, Lib.hid (HB.out.alloc HB.out.size _)⟩
      case measure => simp [intOf]; omega
    · have h9' : ¬ (9 : Int) < u := by omega
      by_cases hS : S = []
      · subst hS
        have hd : b :: [] = D := by
          rw [← HS.out, List.append_nil, Lib.decDigits_one (by omega), HBV.out, Nat.mod_eq_of_lt (by omega)]
        have hq : (((u / 10 : Nat) : Int) == 0) = true := by
          have : u / 10 = 0 := by omega
          rw [this]; rfl
        have hqq := tdiv10 u
        have he : ((Bq ([] : List UInt8)).toList == []) = true := by rw [Lib.toList_data]; rfl
        have HD2 := Lib.hid hd
        clear hd
        go_wp2_with fail
        go_ret
        rw [HD2.out]
        exact ⟨rfl, HB.out.alloc HB.out.size _⟩
      · have hd : b :: S = D := by
          rw [← HS.out, Lib.decDigits_one (by omega), HBV.out, Nat.mod_eq_of_lt (by omega)]
          rfl
        have he : ((Bq S).toList == []) = false := by rw [Lib.toList_data, Bq_data]; simpa using hS
        have hcv2 := conv_one wr b (48 + (u : Int)) (by rw [HBV.out, dgByte _ (Nat.mod_lt _ (by omega))]; omega)
        have HD2 := Lib.hid hd
        clear hd hcv
        go_wp2_with fail
        go_ret
        rw [HD2.out]
        exact ⟨rfl, HB.out.alloc HB.out.size _⟩
theorem infoRefS : (Tryd.prog.info? 44).map (·.size) = some 5 := by kernel_rfl
theorem wpList_store_ref {ops : Array Oper} {rest : List Oper} {o : Oper} {a : Act} {w : World} {Q : Exit → Act → World → Prop} (g : Nat) (old : Array Value) (t : Tok)
    (hg : w.heap[g]? = some (.cells old 44 (0, 0))) (ho : old.size = 5) (x y : Operand) (hop : o.op = .store 44 x y) (hgd : o.guard = none)
    (hx : a.eval x = .pointer (some ⟨g, 0, none⟩)) (hy : a.eval y = tokV t)
    (h : wpList Tryd.prog ops Q rest (a.put o.dst undef) (w.setRow g (tokC t))) : wpList Tryd.prog ops Q (o :: rest) a w :=
  wpList_store_row hgd _ x y hop g (tokC t) hx hy _ old hg infoRefS ho (by simp [tokC, Value.oneCell']) h

set_option maxRecDepth 100000 in
set_option maxHeartbeats 4000000 in
theorem refPrint_calls (A : Option Addr) (l : List Tok) (c : Nat) (w : World) (hA : TokAt w A l) (hl : l.length ≤ 70000) (hok : ∀ t ∈ l, TokOk 70000 t) :
    Calls Tryd.prog 17 #[.slice A l.length c] w fun e w' => e = .returned (.string (Bq (printP l true))) ∧ Below w.heap.size w w' := by
  obtain ⟨P, hP⟩ : ∃ P, printP l true = P := ⟨_, rfl⟩
  rw [hP]
  obtain ⟨n, hn⟩ : ∃ n, l.length = n := ⟨_, rfl⟩
  rw [hn]
  have HP := Lib.hid hP
  have HN := Lib.hid hn
  have HOK := Lib.hid hok
  have HA := Lib.hid hA
  have hn7 : n ≤ 70000 := by omega
  obtain ⟨m, hm⟩ : ∃ m : Nat, m = 70001 := ⟨_, rfl⟩
  have HM := Lib.hid hm
  clear hP hn hok hA hl hm
  go_enter Tryd.func17, Tryd.ntmps17
  go_wp2
  go_loopw [3, 4, 5] (fun vs vf vk wr => ∃ (k : Nat) (fr : Bool) (dn : List UInt8), vs = .string (Bq dn) ∧ vf = .bool fr ∧ vk = .int .i64 (k : Int) ∧ Hid (k ≤ n) ∧ Hid (dn ++ printP (l.drop k) fr = P) ∧ Hid (dn.length ≤ k * m) ∧ Hid (Below w.heap.size w wr))
    (fun _ _ vk _ => n - (intOf vk).toNat)
  case atStart =>
    exact ⟨0, true, [], rfl, rfl, rfl, Lib.hid (by omega), Lib.hid HP.out, Lib.hid (by simp), Lib.hid (Below.refl _ w)⟩
  case round =>
    obtain ⟨k, fr, dn, rfl, rfl, rfl, HK, HD, HDL, HB⟩ := hrel
    by_cases hk : k < n
    · obtain ⟨b, off, rfl, hb, q0, q1, q2, q3, q4⟩ := tok_cells (HA.out.on HB.out) (k := k) (by rw [HN.out]; exact hk)
      obtain ⟨T, hT⟩ : ∃ T, l[k]'(by rw [HN.out]; exact hk) = T := ⟨_, rfl⟩
      rw [hT] at q0 q1 q2 q3 q4
      have hdrop : l.drop k = T :: l.drop (k + 1) := by rw [List.drop_eq_getElem_cons (by rw [HN.out]; exact hk), hT]
      have hmem : T ∈ l := hT ▸ List.getElem_mem _
      have hok := HOK.out T hmem
      have hlen := wrP_le hok (by omega)
      have hd := HD.out
      rw [hdrop, printP] at hd
      have HHD := Lib.hid hd
      have HOKT := Lib.hid hok
      have HLEN := Lib.hid hlen
      clear hdrop hmem hok hlen hd HD hT
      go_wp2_with (refine wpList_store_ref wr.heap.size _ T (heap_alloc_new _ _) rfl _ _ rfl rfl rfl rfl ?_; refine Hid.out ?_)
      refine Lib.hid ?_
      have hb2 := below_setRow ((Below.refl _ wr).alloc (Nat.le_refl _) (.cells #[.int .i64 0, .string ⟨#[]⟩, .int .u64 0, .int .i64 0, .int .i64 0] 44)) (Nat.le_refl _) (tokC T)
      have hg2 : Blk ((wr.alloc (.cells #[.int .i64 0, .string ⟨#[]⟩, .int .u64 0, .int .i64 0, .int .i64 0] 44)).setRow wr.heap.size (tokC T)) wr.heap.size 44 (tokC T) := heap_setRow _ _ _ _ _ _ (heap_alloc_new _ _)
      obtain ⟨g, hg⟩ : ∃ g, wr.heap.size = g := ⟨_, rfl⟩
      obtain ⟨w2, hw2⟩ : ∃ w2, (wr.alloc (.cells #[.int .i64 0, .string ⟨#[]⟩, .int .u64 0, .int .i64 0, .int .i64 0] 44)).setRow wr.heap.size (tokC T) = w2 := ⟨_, rfl⟩
      rw [hw2] at hb2 hg2 ⊢
      have HB2 := Lib.hid (HB.out.trans (Joins.below_le hb2 HB.out.size))
      rw [hg] at hg2 ⊢
      have HG2 := Lib.hid hg2
      clear hw2 hb2 hg2 q0 q1 q2 q3 q4 hg
      have p0 : w2.cell? ⟨g, 0, none⟩ = some (.int .i64 T.kind) := HG2.out.cell 0
      have p1 : w2.cell? ⟨g, 1, none⟩ = some (.string T.text) := HG2.out.cell 1
      have p2 : w2.cell? ⟨g, 2, none⟩ = some (.int .u64 T.num) := HG2.out.cell 2
      have hk1 : (k : Int) + 1 ≤ 70000 := by omega
      have hbnd : dn.length + 1 + 70000 ≤ 140737488355328 := by
        have h1 := HDL.out
        have h2 : k * m ≤ 70000 * 70001 := Nat.mul_le_mul (by omega) (by rw [HM.out]; exact Nat.le_refl _)
        omega
      have HBND := Lib.hid hbnd
      clear hbnd
      by_cases hneg : T.kind < 0
      · have e : dn ++ printP (l.drop (k + 1)) fr = P := by rw [← HHD.out, if_pos (Or.inl hneg)]
        have HE := Lib.hid e
        clear e
        go_wp2_with fail
        go_round
        case rel => exact ⟨k + 1, fr, dn, rfl, rfl, by go_num, Lib.hid (by omega), HE, Lib.hid (by have := HDL.out; rw [Nat.succ_mul]; omega), HB2⟩
        case measure => simp [intOf]; omega
      · by_cases hbig : 3 < T.kind
        · have e : dn ++ printP (l.drop (k + 1)) fr = P := by rw [← HHD.out, if_pos (Or.inr hbig)]
          have HE := Lib.hid e
          clear e
          go_wp2_with fail
          go_round
          case rel => exact ⟨k + 1, fr, dn, rfl, rfl, by go_num, Lib.hid (by omega), HE, Lib.hid (by have := HDL.out; rw [Nat.succ_mul]; omega), HB2⟩
          case measure => simp [intOf]; omega
        · have hnb : ¬ (T.kind < 0 ∨ 3 < T.kind) := by omega
          have e0 := HHD.out
          rw [if_neg hnb] at e0
          by_cases h3 : T.kind = 3
          · have n3 : (T.kind == 3) = true := by simpa using h3
            have hw : wrP T = [10] := by unfold wrP; rw [if_neg (by omega), if_pos h3]
            rw [if_neg (fun h => h.2 h3), hw, decide_eq_true h3, List.nil_append, ← List.append_assoc] at e0
            have had := fun W => add_run (Bq dn) ⟨#[10]⟩ (Bq (dn ++ [10])) (Bq_append dn [10]) (show (Bq dn).size + 1 ≤ _ by rw [Bq_size]; have := HBND.out; omega) W
            have HE := Lib.hid e0
            clear e0 h3 hw hnb
            go_wp2_with fail
            go_round
            case rel => exact ⟨k + 1, true, dn ++ [10], rfl, rfl, by go_num, Lib.hid (by omega), HE, Lib.hid (by have h1 := HDL.out; have h2 := HM.out; rw [Nat.succ_mul, List.length_append, List.length_singleton]; omega), HB2⟩
            case measure => simp [intOf]; omega
          · have n3 : (T.kind == 3) = false := by simpa using h3
            obtain ⟨d2, hd2, had, hE, hdl⟩ : ∃ d2, (d2 = if fr = false then dn ++ [32] else dn) ∧ (fr = false → ∀ W, (Op.stringOp .add (Bq dn) ⟨#[32]⟩).run Tryd.prog W = .ok (.string (Bq d2)) W) ∧ d2 ++ wrP T ++ printP (l.drop (k + 1)) false = P ∧ d2.length ≤ dn.length + 1 := by
              rw [decide_eq_false h3] at e0
              refine ⟨_, rfl, fun h W => ?_, ?_, ?_⟩
              · rw [if_pos h]
                exact add_run (Bq dn) ⟨#[32]⟩ (Bq (dn ++ [32])) (Bq_append dn [32]) (show (Bq dn).size + 1 ≤ _ by rw [Bq_size]; have := HBND.out; omega) W
              · by_cases h : fr = false
                · rw [if_pos ⟨h, h3⟩] at e0
                  rw [if_pos h, ← e0]
                  simp only [List.append_assoc]
                · rw [if_neg (fun h' => h h'.1)] at e0
                  rw [if_neg h, ← e0]
                  simp only [List.append_assoc, List.nil_append]
              · split
                · simp
                · omega
            have HE := Lib.hid hE
            have HDL2 := Lib.hid hdl
            clear hE hdl e0 hnb
            by_cases h1 : T.kind = 1
            · have n1 : (T.kind == 1) = true := by simpa using h1
              have hw : wrP T = Lib.decDigits T.num := by unfold wrP; rw [if_pos h1]
              have HW := Lib.hid hw
              have hadd := fun W => add_run (Bq d2) (Bq (Lib.decDigits T.num)) (Bq (d2 ++ Lib.decDigits T.num)) (Bq_append _ _) (by rw [Bq_size, Bq_size, ← HW.out]; have := HBND.out; have := HDL2.out; have := HLEN.out; omega) W
              have HDG := Lib.hid (refDigits_calls T.num HOKT.out.1)
              clear h1 hw h3
              cases fr
              · have ha := had rfl
                clear had hd2
                go_wp2_with (go_at_call 27; refine (HDG.out _).mono ?_; rintro e w4 ⟨rfl, hb4⟩; refine Hid.out ?_)
                refine Lib.hid ?_
                have HB4 := Lib.hid (HB2.out.trans (Joins.below_le hb4 HB2.out.size))
                clear hb4
                go_wp2_with fail
                go_round
                case rel => exact ⟨k + 1, false, d2 ++ Lib.decDigits T.num, rfl, rfl, by go_num, Lib.hid (by omega), by rw [← HW.out]; exact HE, Lib.hid (by rw [← HW.out]; have h1 := HDL.out; have h2 := HM.out; have h4 := HDL2.out; have h5 := HLEN.out; rw [Nat.succ_mul, List.length_append]; omega), HB4⟩
                case measure => simp [intOf]; omega
              · have hdd : dn = d2 := by rw [hd2]; rfl
                subst hdd
                clear had hd2
                go_wp2_with (go_at_call 27; refine (HDG.out _).mono ?_; rintro e w4 ⟨rfl, hb4⟩; refine Hid.out ?_)
                refine Lib.hid ?_
                have HB4 := Lib.hid (HB2.out.trans (Joins.below_le hb4 HB2.out.size))
                clear hb4
                go_wp2_with fail
                go_round
                case rel => exact ⟨k + 1, false, dn ++ Lib.decDigits T.num, rfl, rfl, by go_num, Lib.hid (by omega), by rw [← HW.out]; exact HE, Lib.hid (by rw [← HW.out]; have h1 := HDL.out; have h2 := HM.out; have h5 := HLEN.out; rw [Nat.succ_mul, List.length_append]; omega), HB4⟩
                case measure => simp [intOf]; omega
            · have n1 : (T.kind == 1) = false := by simpa using h1
              have hw : wrP T = T.text.data.toList := by unfold wrP; rw [if_neg h1, if_neg h3]
              have HW := Lib.hid hw
              have hadd := fun W => add_run (Bq d2) T.text (Bq (d2 ++ T.text.data.toList)) (Bq_append d2 T.text.data.toList) (by have h9 := HLEN.out; rw [HW.out, Array.length_toList] at h9; have h8 : T.text.data.size = T.text.size := rfl; rw [Bq_size]; have := HBND.out; have := HDL2.out; omega) W
              clear h1 hw h3
              cases fr
              · have ha := had rfl
                clear had hd2
                go_wp2_with fail
                go_round
                case rel => exact ⟨k + 1, false, d2 ++ T.text.data.toList, rfl, rfl, by go_num, Lib.hid (by omega), by rw [← HW.out]; exact HE, Lib.hid (by rw [← HW.out]; have h1 := HDL.out; have h2 := HM.out; have h4 := HDL2.out; have h5 := HLEN.out; rw [Nat.succ_mul, List.length_append]; omega), HB2⟩
                case measure => simp [intOf]; omega
              · have hdd : dn = d2 := by rw [hd2]; rfl
                subst hdd
                clear had hd2
                go_wp2_with fail
                go_round
                case rel => exact ⟨k + 1, false, dn ++ T.text.data.toList, rfl, rfl, by go_num, Lib.hid (by omega), by rw [← HW.out]; exact HE, Lib.hid (by rw [← HW.out]; have h1 := HDL.out; have h2 := HM.out; have h5 := HLEN.out; rw [Nat.succ_mul, List.length_append]; omega), HB2⟩
                case measure => simp [intOf]; omega
    · have hkn : k = n := by have := HK.out; omega
      subst hkn
      have e : dn = P := by
        have := HD.out
        rw [List.drop_of_length_le (by rw [HN.out]; exact Nat.le_refl _), printP, List.append_nil] at this
        exact this
      subst e
      go_wp2_with fail
      go_ret
      exact ⟨rfl, HB.out⟩

set_option maxRecDepth 100000 in
set_option maxHeartbeats 4000000 in
theorem prints_walk {w : World} (A : Option Addr) (n c : Nat) (l : List Tok) (hl : l.length = n) (_ : n ≤ maxLen) (hA : TokAt w A l) (hok : ∀ t ∈ l, t.num < 18446744073709551616) (_ : World) (hL : LibV w) :
    Calls Tryd.prog 4 #[.slice A n c] w fun e w' => e = .returned (.bool true) ∧ Below w.heap.size w w' := by
  have HAL := Lib.hid (alive_calls w hL)
  have HL := Lib.hid hL
  have HA := Lib.hid hA
  have HN := Lib.hid hl
  have HOK := Lib.hid hok
  clear hL hA hl hok
  by_cases h40 : 40 < n
  · have h40' : (40 : Int) < n := by omega
    go_enter Tryd.func4, Tryd.ntmps4
    go_wp2_with (go_at_call 9; refine HAL.out.mono ?_; rintro e w1 ⟨rfl, hb1⟩)
    go_ret
    exact ⟨rfl, hb1⟩
  · have h40' : (n : Int) ≤ 40 := by omega
    go_enter Tryd.func4, Tryd.ntmps4
    go_wp2_with (go_at_call 9; refine HAL.out.mono ?_; rintro e w1 ⟨rfl, hb1⟩; refine Hid.out ?_)
    refine Lib.hid ?_
    have HB1 := Lib.hid hb1
    clear hb1 HAL
    go_wp2_with fail
    go_loopw [12] (fun vk wr => ∃ (k : Nat), vk = .int .i64 (k : Int) ∧ Hid (k ≤ n) ∧ Hid (∀ t ∈ l.take k, t.text.size ≤ 60) ∧ Hid (Below w.heap.size w wr)) (fun vk _ => n - (intOf vk).toNat)
    case atStart => exact ⟨0, rfl, Lib.hid (Nat.zero_le _), Lib.hid (by simp), HB1⟩
    case round =>
      obtain ⟨k, rfl, HK, HT, HB⟩ := hrel
      by_cases hk : k < n
      · obtain ⟨b, off, rfl, hb, q0, q1, q2, q3, q4⟩ := tok_cells (HA.out.on HB.out) (k := k) (by rw [HN.out]; exact hk)
        obtain ⟨T, hT⟩ : ∃ T, l[k]'(by rw [HN.out]; exact hk) = T := ⟨_, rfl⟩
        rw [hT] at q0 q1 q2 q3 q4
        have htk : l.take (k + 1) = l.take k ++ [T] := by rw [List.take_succ_eq_append_getElem (by rw [HN.out]; exact hk), hT]
        have HTK := Lib.hid htk
        clear htk hT
        go_wp2_with (refine wpList_store_tok wr.heap.size _ T (heap_alloc_new _ _) rfl _ _ rfl rfl rfl rfl ?_; refine Hid.out ?_)
        refine Lib.hid ?_
        have hb2 := below_setRow ((Below.refl _ wr).alloc (Nat.le_refl _) (.cells #[.int .i64 0, .string ⟨#[]⟩, .int .u64 0, .int .i64 0, .int .i64 0] 39)) (Nat.le_refl _) (tokC T)
        have hg2 : Blk ((wr.alloc (.cells #[.int .i64 0, .string ⟨#[]⟩, .int .u64 0, .int .i64 0, .int .i64 0] 39)).setRow wr.heap.size (tokC T)) wr.heap.size 39 (tokC T) := heap_setRow _ _ _ _ _ _ (heap_alloc_new _ _)
        obtain ⟨g, hg⟩ : ∃ g, wr.heap.size = g := ⟨_, rfl⟩
        obtain ⟨w2, hw2⟩ : ∃ w2, (wr.alloc (.cells #[.int .i64 0, .string ⟨#[]⟩, .int .u64 0, .int .i64 0, .int .i64 0] 39)).setRow wr.heap.size (tokC T) = w2 := ⟨_, rfl⟩
        rw [hw2] at hb2 hg2 ⊢
        have HB2 := Lib.hid (HB.out.trans (Joins.below_le hb2 HB.out.size))
        rw [hg] at hg2 ⊢
        have p1 : w2.cell? ⟨g, 1, none⟩ = some (.string T.text) := hg2.cell 1
        clear hw2 hb2 hg2 q0 q1 q2 q3 q4 hg
        have hk1 : (k : Int) + 1 ≤ 41 := by omega
        by_cases h6 : 60 < T.text.size
        · have h6' : (60 : Int) < T.text.size := by omega
          go_wp2_with fail
          go_ret
          exact ⟨rfl, HB2.out⟩
        · have h6' : ¬ (60 : Int) < T.text.size := by omega
          go_wp2_with fail
          go_round
          case rel =>
            refine ⟨k + 1, by go_num, Lib.hid (by omega), Lib.hid (fun t ht => ?_), HB2⟩
            rw [HTK.out] at ht
            rcases List.mem_append.1 ht with h | h
            · exact HT.out t h
            · rw [List.mem_singleton] at h; subst h; omega
          case measure => simp [intOf]; omega
      · have hkn : k = n := by have := HK.out; omega
        subst hkn
        have hall : ∀ t ∈ l, TokOk 70000 t := fun t ht => ⟨HOK.out t ht, by
          have h1 := HT.out t (by rw [List.take_of_length_le (by rw [HN.out]; exact Nat.le_refl _)]; exact ht)
          omega⟩
        have hpr := print_calls A l c wr (HA.out.on HB.out) (by rw [HN.out]; omega) hall (HL.out.on HB.out)
        rw [HN.out] at hpr
        have HPR := Lib.hid hpr
        have HALL := Lib.hid hall
        clear hpr hall
        go_wp2_with (go_at_call 16; refine HPR.out.mono ?_; rintro e w2 ⟨rfl, hb2⟩; refine Hid.out ?_)
        refine Lib.hid ?_
        have HB2 := Lib.hid (HB.out.trans (Joins.below_le hb2 HB.out.size))
        have has := as_calls A l c w2 (HA.out.on HB2.out) (by rw [HN.out]; omega)
        rw [HN.out] at has
        have HAS := Lib.hid has
        clear has hb2
        go_wp2_with (go_at_call 13; refine HAS.out.mono ?_; rintro e w3 ⟨A3, c3, rfl, ho3, hb3⟩; refine Hid.out ?_)
        refine Lib.hid ?_
        have HB3 := Lib.hid (HB2.out.trans (Joins.below_le hb3 HB2.out.size))
        have hrp := refPrint_calls A3 l c3 w3 (TokAt.of_own ho3 HN.out) (by rw [HN.out]; omega) HALL.out
        rw [HN.out] at hrp
        have HRP := Lib.hid hrp
        clear hrp ho3 hb3
        obtain ⟨P, hP⟩ : ∃ P, printP l true = P := ⟨_, rfl⟩
        rw [hP] at HRP ⊢
        have hpe : (P == (Bq P).toList) = true := by rw [Lib.toList_data, Bq_data]; simp
        go_wp2_with (go_at_call 17; refine HRP.out.mono ?_; rintro e w4 ⟨rfl, hb4⟩)
        go_ret
        exact ⟨rfl, HB3.out.trans (Joins.below_le hb4 HB3.out.size)⟩
end Go.Proofs.YtonihjijienigaaDoor
