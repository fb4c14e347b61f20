/- Layer 3 (instr): the document's Get, Bytes. -/
import Derived.Test.YtkinnhdagdkhcaaDoorInsT
import Derived.Lib.SlBytesConst
import Derived.ArgAppend
namespace Go.Proofs.YtkinnhdagdkhcaaDoor
open Go.RowKit

theorem getL_drop (bs : List Int) (k : Nat) (x : Int) (h : bs[k]? = some x) : getL (bs.drop k) = x + 256 * getL (bs.drop (k + 1)) := by
  obtain ⟨hlt, he⟩ := List.getElem?_eq_some_iff.1 h
  rw [List.drop_eq_getElem_cons hlt, he]
  rfl

set_option maxRecDepth 100000 in
theorem refGet_calls (w : World) (A : Option Addr) (n c : Nat) (bs : List Int) (hn : bs.length = n) (h8 : n ≤ 8) (hb : BytesAt w A bs) (hB : ByteL bs) :
    Calls Tryd.prog 26 #[.slice A n c] w fun e w' => e = .returned (.int .u64 (getL bs)) ∧ w = w' := by
  have HN := Lib.hid hn
  have HB := Lib.hid hb
  have HL := Lib.hid hB
  clear hn hb hB
  go_enter Tryd.func26, Tryd.ntmps26
  go_wp2_with fail
  go_loop [3, 4] (fun v i => ∃ k : Nat, k ≤ n ∧ v = .int .u64 (getL (bs.drop k)) ∧ i = .int .i64 ((k : Int) - 1)) (fun _ i => (intOf i + 1).toNat)
  case atStart => exact ⟨n, Nat.le_refl _, by rw [List.drop_of_length_le (by rw [HN.out]; exact Nat.le_refl _)]; rfl, rfl⟩
  case round =>
    obtain ⟨k, hk, rfl, rfl⟩ := hrel
    by_cases hk0 : 0 < k
    · obtain ⟨j, rfl⟩ : ∃ j, k = j + 1 := ⟨k - 1, by omega⟩
      have hj : j < bs.length := by have := HN.out; omega
      obtain ⟨b1, o1, hA1, hb1, c0⟩ := byte_cell HB.out hj
      subst hA1
      have hg := getL_drop bs j bs[j] (List.getElem?_eq_getElem hj)
      obtain ⟨x0, x1⟩ := HL.out bs[j] (List.getElem_mem hj)
      obtain ⟨g0, g1⟩ := getL_bound (bs.drop (j + 1)) (HL.out.drop (j + 1))
      have hlen : (bs.drop (j + 1)).length ≤ 7 := by have := HN.out; simp; omega
      have g2 : getL (bs.drop (j + 1)) < 72057594037927936 := by
        refine Int.lt_of_lt_of_le g1 ?_
        generalize (bs.drop (j + 1)).length = L at *
        match L, hlen with
        | 0, _ => decide
        | 1, _ => decide
        | 2, _ => decide
        | 3, _ => decide
        | 4, _ => decide
        | 5, _ => decide
        | 6, _ => decide
        | 7, _ => decide
        | L + 8, h => omega
      clear g1 hlen
      have HG := Lib.hid hg
      clear hg
      generalize getL (bs.drop (j + 1)) = G at *
      generalize bs[j] = x at *
      have z1 : (((j + 1 : Nat) : Int) - 1) = (j : Int) := by omega
      rw [z1]
      clear z1
      go_wp2_with fail
      go_round
      case rel => exact ⟨j, by omega, by rw [HG.out, Int.add_comm], by first | rfl | go_num⟩
      case measure => first | (simp [intOf]; omega) | simp [intOf]
    · have hk' : k = 0 := by omega
      subst hk'
      go_wp2_with fail
      go_ret
      exact ⟨rfl, rfl⟩

theorem headL_eq (n : Nat) (h : n ≤ 256) : bv [84, 66] ++ bv (immL (n : Int) 2) = bv (headL n) := by
  have e : immL (n : Int) 2 = [(n : Int) % 256, (n : Int) / 256] := by
    simp [immL, List.range_succ]
    omega
  rw [e]
  rfl

theorem own_zero {w : World} {base size n : Nat} {e : TypeId} {v : Value} {xs : List Value} (h : w.ownsRow base e size v n xs) : w.ownsRow 0 e size v n xs := by
  refine ⟨h.1, ?_⟩
  rcases h.2 with hn | ⟨g, cap, cur, hv, _, rest⟩
  · exact .inl hn
  · exact .inr ⟨g, cap, cur, hv, Nat.zero_le _, rest⟩

set_option maxRecDepth 100000 in
set_option maxHeartbeats 4000000 in
theorem refBytes_calls (w : World) (A : Option Addr) (n c : Nat) (l : List InsD) (hn : l.length = n) (h256 : n ≤ 256) (hl : InsAt w A l) (hi : ∀ d ∈ l, 0 ≤ d.imm ∧ d.imm < 18446744073709551616) (hp : l.all plainB = true) :
    Calls Tryd.prog 11 #[.slice A n c] w fun e w' => ∃ B q, e = .returned (.slice B (4 + 12 * n) q) ∧ w'.ownsRow 0 5 1 (.slice B (4 + 12 * n) q) (4 + 12 * n) (bv (encL l)) ∧ Kept (fun _ => False) w w' := by
  obtain ⟨i0, hi0, hz0, hz1, hz2⟩ := info_parts' infoU8
  have HN := Lib.hid hn
  have HL := Lib.hid hl
  have HI := Lib.hid hi
  have HP := Lib.hid hp
  clear hn hl hi hp
  have hcs : (convert 23 23 (.slice (some ⟨w.heap.size, 0, none⟩) 2 2)).run Tryd.prog (w.alloc (.cells #[.int .u8 84, .int .u8 66] 5)) = .ok (.slice (some ⟨w.heap.size, 0, none⟩) 2 2) (w.alloc (.cells #[.int .u8 84, .int .u8 66] 5 (2, 3))) :=
    Lib.run_convert_bytes_const w 23 5 #[.int .u8 84, .int .u8 66] 2 2 Tryd.underlying23 Tryd.underlying5
  go_enter Tryd.func11, Tryd.ntmps11
  go_wp2_with fail
  have hN2 := refNum_calls (w.alloc (.cells #[.int .u8 84, .int .u8 66] 5 (2, 3))) (n : Int) 2 (by omega) (by omega) (by omega)
  have e2 : ((2 : Nat) : Int) = 2 := rfl
  rw [e2] at hN2
  clear e2
  refine hN2.mono ?_
  rintro e w1 ⟨N1, m1, rfl, ho1, hf1, K1⟩
  obtain ⟨g1, rfl, _, hc1⟩ := own_at ho1 (by omega)
  have HO0 := Lib.hid (fun (j : Nat) (u : Value) (hu : (bv [84, 66])[j]? = some u) => K1.cell_some (fun h => h) (show (w.alloc (.cells #[.int .u8 84, .int .u8 66] 5 (2, 3))).cell? ((⟨w.heap.size, 0, none⟩ : Addr).add j) = some u by
    rw [addr_add, cell_of_row _ w.heap.size j #[.int .u8 84, .int .u8 66] 5 (2, 3) (heap_alloc_new w _), ← Array.getElem?_toList]
    exact hu))
  have HO1 := Lib.hid ho1
  have HK1 := Lib.hid (((Kept.refl (fun _ => False) w).alloc _).trans K1)
  have HC1 := Lib.hid (fun (j : Nat) (u : Value) (hu : (bv (immL (n : Int) 2))[j]? = some u) => ho1.cells (g := g1) rfl j u hu)
  have hb2 : (bv (immL (n : Int) 2)).length = 2 * 1 := by rw [bv_length, immL_length]
  have HB2 := Lib.hid hb2
  clear ho1 hf1 hc1 K1 hb2
  go_wp2_with (at_builtin; refine wpList_append_grows _ rfl (.tmp 7) (.tmp 11) 23 rfl 5 i0 _ 1 1 Tryd.underlying23 hi0 hz0 hz1 hz2 rfl (by decide) (some ⟨w.heap.size, 0, none⟩) 2 2 (bv [84, 66]) rfl (fun h => by cases h) rfl (fun b hb => by cases hb; exact HO0.out) ⟨g1, 0, none⟩ 2 m1 (bv (immL (n : Int) 2)) rfl HB2.out HC1.out (bv_one _) (by omega) (by unfold maxLen; omega) (by omega) ?_; intro v2 w2 ho2 hg2; obtain ⟨A2, q2, rfl⟩ := own_form ho2)
  have K2 : Kept (fun _ => False) w w2 := Kept.push HK1.out hg2 (fun x hx => by cases hx)
  have F2 : ∀ x, (Value.slice A2 4 q2).ownBlock = some x → w.heap.size ≤ x := fun x hx => by
    have h1 := (ho2.lt x hx).1
    have h2 := HK1.out.size
    omega
  have ho2' : w2.ownsRow 0 5 1 (.slice A2 4 q2) 4 (bv (headL n)) := by rw [← headL_eq n h256]; exact own_zero ho2
  have HK2 := Lib.hid K2
  have HF2 := Lib.hid F2
  have HO2 := Lib.hid ho2'
  clear K2 F2 ho2' ho2 hg2 hcs
  go_loopw [3, 4] (fun v i wr => EncRel w l v i wr) (fun _ i _ => n - (intOf i).toNat)
  case atStart => exact ⟨0, Nat.zero_le _, rfl, rfl, by rw [HN.out]; simpa [bytesAll] using HO2.out, HF2.out, HK2.out⟩
  case round =>
    obtain ⟨k, hk, rfl, hpk, ho, hf, hK⟩ := hrel
    obtain ⟨A3, q3, rfl⟩ := own_form ho
    by_cases hlt : k < n
    · have hlt' : k < l.length := by have := HN.out; omega
      obtain ⟨sb, so, hA, hsb, c0, c1, c2, c3, c4⟩ := ins_cells (HL.out.kept hK) hlt'
      subst hA
      have HE3 : Hid (Enc w (World.alloc _ (.cells #[.int .i64 l[k].op, .int .i64 l[k].a, .int .i64 l[k].b, .int .i64 l[k].c, .int .u64 l[k].imm] 47)) A3 q3 (4 + 12 * k) _ #[.int .i64 l[k].op, .int .i64 l[k].a, .int .i64 l[k].b, .int .i64 l[k].c, .int .u64 l[k].imm] (bv (headL l.length ++ bytesAll (l.take k)))) :=
        Lib.hid ⟨ho.alloc _, hf, hK.alloc _, Blk.new _ _ _⟩
      have HPK := Lib.hid hpk
      have hpl := List.all_eq_true.1 HP.out l[k] (List.getElem_mem _)
      obtain ⟨⟨b0, b1⟩, ⟨b2, b3⟩, ⟨b4, b5⟩, b6, b7⟩ := plain_bounds hpl
      obtain ⟨im0, im1⟩ := HI.out l[k] (List.getElem_mem _)
      have HPL := Lib.hid hpl
      have hsn := bytesAll_snoc l k hlt'
      have HSN := Lib.hid hsn
      clear ho hf hK hpk hpl hsn
      generalize hd : l[k] = d at *
      obtain ⟨op, a, b, c', imm⟩ := d
      simp only at *
      have HD := Lib.hid hd
      clear hd
      go_wp2_with (at_builtin; refine wpList_append_own_at _ rfl (.tmp 23) (.tmp 36) 23 rfl 0 5 i0 _ 1 1 Tryd.underlying23 hi0 hz0 hz1 hz2 rfl (by decide) (.slice A3 (4 + 12 * k) q3) (4 + 12 * k) _ rfl (HE3.out.own.alloc _) ⟨_, 0, none⟩ 4 4 (bv [op, a, b, c']) rfl rfl (news_at _ _ _ _ (by simp)) (bv_one _) (by unfold maxLen; omega) (by omega) (Nat.zero_le _) ?_; intro v4 w4 ho4 hg4 hi4 hat4; clear hi4; obtain ⟨A4, q4, rfl⟩ := own_form ho4; have HE4 := Lib.hid (HE3.out.push ho4 hg4 hat4); clear ho4 hg4 hat4; have d4 : _ = some (Value.int .u64 imm) := HE4.out.blk.cell 4)
      have hN8 := refNum_calls w4 imm 8 im0 im1 (Nat.le_refl _)
      have e8 : ((8 : Nat) : Int) = 8 := rfl
      rw [e8] at hN8
      refine hN8.mono ?_
      rintro e w5 ⟨N5, m5, rfl, ho5, hf5, K5⟩
      obtain ⟨g5, rfl, _, _⟩ := own_at ho5 (by omega)
      have HO4 := Lib.hid (K5.own HE4.out.own (fun _ _ h => h))
      have HK5 := Lib.hid (HE4.out.kept.trans K5)
      have HC5 := Lib.hid (fun (j : Nat) (u : Value) (hu : (bv (immL imm 8))[j]? = some u) => ho5.cells (g := g5) rfl j u hu)
      have hb8 : (bv (immL imm 8)).length = 8 * 1 := by rw [bv_length, immL_length]
      have HB8 := Lib.hid hb8
      clear e8 hN8 hf5 K5 hb8 ho5
      go_wp2_with (at_builtin; refine wpList_append_own_at _ rfl (.tmp 38) (.tmp 41) 23 rfl 0 5 i0 _ 1 1 Tryd.underlying23 hi0 hz0 hz1 hz2 rfl (by decide) (.slice A4 (4 + 12 * k + 4) q4) (4 + 12 * k + 4) _ rfl HO4.out ⟨g5, 0, none⟩ 8 m5 (bv (immL imm 8)) rfl HB8.out HC5.out (bv_one _) (by unfold maxLen; omega) (by omega) (Nat.zero_le _) ?_; intro v6 w6 ho6 hg6 hi6 hat6; clear hi6; obtain ⟨A6, q6, rfl⟩ := own_form ho6)
      have F6 := fresh_push HK5.out HE4.out.fresh hat6
      have K6 := Kept.push HK5.out hg6 HE4.out.fresh
      refine ⟨⟨k + 1, by omega, rfl, ?_, ?_, F6, K6⟩, by simp [intOf]; omega⟩
      · rw [List.take_succ_eq_append_getElem hlt', List.all_append, HPK.out, HD.out]
        simp [HPL.out]
      · rw [HSN.out]
        rw [List.append_assoc, ← bv_append, ← bv_append, List.append_assoc] at ho6
        exact ho6
    · have hkn : k = n := by have := HN.out; omega
      subst hkn
      have hl' := HN.out
      rw [List.take_of_length_le (by omega)] at ho
      have HO := Lib.hid ho
      have HK := Lib.hid hK
      clear ho hf hK hpk hl'
      go_wp2_with fail
      go_ret
      refine ⟨A3, q3, rfl, ?_, HK.out⟩
      have := HO.out
      exact this

end Go.Proofs.YtkinnhdagdkhcaaDoor
