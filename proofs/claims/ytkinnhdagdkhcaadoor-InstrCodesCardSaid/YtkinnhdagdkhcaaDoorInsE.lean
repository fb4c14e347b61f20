/- Layer 3 (instr): Encode. -/
import Derived.Test.YtkinnhdagdkhcaaDoorInsD
namespace Go.Proofs.YtkinnhdagdkhcaaDoor
open Go.RowKit

def headL (n : Nat) : List Int := [84, 66, (n : Int) % 256, (n : Int) / 256]
def encL (l : List InsD) : List Int := headL l.length ++ bytesAll l
theorem encL_length (l : List InsD) : (encL l).length = 4 + 12 * l.length := by
  unfold encL headL
  rw [List.length_append, bytesAll_length]
  rfl
theorem bytesAll_snoc (l : List InsD) (k : Nat) (hk : k < l.length) : bytesAll (l.take (k + 1)) = bytesAll (l.take k) ++ bytesOf l[k] := by
  rw [List.take_succ_eq_append_getElem hk]
  unfold bytesAll
  rw [List.flatMap_append]
  simp

def EncPost (w : World) (l : List InsD) (e : Ending) (w' : World) : Prop :=
  Kept (fun _ => False) w w' ∧
  ((l.all plainB = true ∧ ∃ A c, e = .returned (.tuple #[.slice A (4 + 12 * l.length) c, .int .i64 0]) ∧ w'.ownsRow 0 5 1 (.slice A (4 + 12 * l.length) c) (4 + 12 * l.length) (bv (encL l)) ∧ ∀ x, A = some x → w.heap.size ≤ x.block) ∨
   (l.all plainB = false ∧ e = .returned (.tuple #[.slice none 0 0, .int .i64 30])))
def EncRel (w : World) (l : List InsD) (v i : Value) (wr : World) : Prop :=
  ∃ k : Nat, k ≤ l.length ∧ i = .int .i64 k ∧ (l.take k).all plainB = true ∧ wr.ownsRow 0 5 1 v (4 + 12 * k) (bv (headL l.length ++ bytesAll (l.take k))) ∧ (∀ x, v.ownBlock = some x → w.heap.size ≤ x) ∧ Kept (fun _ => False) w wr

/-- While an instruction's bytes are written: the row that grows, and the instruction's own block. -/
structure Enc (w W : World) (A : Option Addr) (q m B : Nat) (ds : Array Value) (xs : List Value) : Prop where
  own : W.ownsRow 0 5 1 (.slice A m q) m xs
  fresh : ∀ x, (Value.slice A m q).ownBlock = some x → w.heap.size ≤ x
  kept : Kept (fun _ => False) w W
  blk : Blk W B 47 ds
theorem Enc.push {w W w3 : World} {A A3 : Option Addr} {q q3 m m3 B : Nat} {ds : Array Value} {xs ys : List Value} {o : Obj} (h : Enc w W A q m B ds xs)
    (hown : w3.ownsRow 0 5 1 (.slice A3 m3 q3) m3 ys) (hgrow : (W.alloc o).grownBy w3 (Value.slice A m q).ownBlock)
    (hat : (Value.slice A3 m3 q3).ownBlock = (Value.slice A m q).ownBlock ∨ (Value.slice A3 m3 q3).ownBlock = some (W.alloc o).heap.size) : Enc w w3 A3 q3 m3 B ds ys :=
  ⟨hown, fresh_push (h.kept.alloc o) h.fresh hat, Kept.push (h.kept.alloc o) hgrow h.fresh, (h.blk.alloc o).grown hgrow (own_blk_ne h.own h.blk (by decide))⟩

theorem encode_many (A : Option Addr) (n c : Nat) (w : World) (hn : 256 < n) (hm : n ≤ maxLen) : Calls Tryd.prog 9 #[.slice A n c] w fun e w' => e = .returned (.tuple #[.slice none 0 0, .int .i64 3]) ∧ w = w' := by
  unfold maxLen at hm
  go_enter Tryd.func9, Tryd.ntmps9
  go_wp2
  go_ret2
  exact ⟨rfl, rfl⟩

set_option maxRecDepth 100000 in
set_option maxHeartbeats 4000000 in
theorem encode_walk (w : World) (A : Option Addr) (n c : Nat) (l : List InsD) (hn : l.length = n) (h256 : n ≤ 256) (hl : InsAt w A l) (hi : ∀ d ∈ l, 0 ≤ d.imm ∧ d.imm < 18446744073709551616) (T : Tabs w) :
    Calls Tryd.prog 9 #[.slice A n c] w (EncPost w l) := by
  obtain ⟨i0, hi0, hz0, hz1, hz2⟩ := info_parts' infoU8
  have hmk : ∀ W : World, (Instr.makeSlice 23 (.int .i64 0) (.int .i64 (4 + (n : Int) * 12))).run Tryd.prog W = .ok (.slice (some ⟨W.heap.size, 0, none⟩) 0 (4 + 12 * n)) (W.alloc (.cells (madeCells (Value.int .u8 0).cells (4 + 12 * n)) 5)) := fun W => by
    have h := run_make (P := Tryd.prog) W 23 5 i0 _ Tryd.underlying23 hi0 hz0 .i64 .i64 0 (4 + (n : Int) * 12) (by omega) (by omega) (by rw [hz2]; omega) (by omega)
    have e : (4 + (n : Int) * 12).toNat = 4 + 12 * n := by omega
    simpa [hz1, e] using h
  have HI := Lib.hid hi
  have HN := Lib.hid hn
  have HL := Lib.hid hl
  have HT := Lib.hid T
  clear hi hn hl T
  obtain ⟨Z, hZ⟩ : ∃ Z, Z = madeCells (Value.int .u8 0).cells (4 + 12 * n) := ⟨_, rfl⟩
  rw [← hZ] at hmk
  have hZs : Z.size = (4 + 12 * n) * 1 := by rw [hZ]; simp [madeCells]
  have HZ := Lib.hid hZs
  clear hZ hZs
  go_enter Tryd.func9, Tryd.ntmps9
  go_wp2_with (at_builtin; refine wpList_append_own_at _ rfl (.tmp 16) (.tmp 24) 23 rfl 0 5 i0 _ 1 1 Tryd.underlying23 hi0 hz0 hz1 hz2 rfl (by decide) (.slice (some ⟨w.heap.size, 0, none⟩) 0 (4 + 12 * n)) 0 [] rfl ((World.ownsRow_made w Z (4 + 12 * n) (Nat.zero_le _) (by unfold maxLen; omega) HZ.out).alloc _) ⟨w.heap.size + 1, 0, none⟩ 4 4 (bv (headL n)) rfl rfl (news_at _ _ _ _ (by simp)) (bv_one _) (by unfold maxLen; omega) (by omega) (Nat.zero_le _) ?_; intro v1 w1 hown1 hgrow _ hat; obtain ⟨A1, c1, rfl⟩ := own_form hown1)
  have K1 : Kept (fun _ => False) w w1 := Kept.push (((Kept.refl _ _).alloc _).alloc _) hgrow (fun x hx => by simp [Value.ownBlock] at hx; omega)
  have F1 := fresh_push (v := .slice (some ⟨w.heap.size, 0, none⟩) 0 (4 + 12 * n)) (((Kept.refl (fun _ => False) w).alloc (.cells Z 5)).alloc (.cells #[.int .u8 84, .int .u8 66, .int .u8 ((n : Int) % 256), .int .u8 ((n : Int) / 256)] 5)) (fun x hx => by simp [Value.ownBlock] at hx; omega) hat
  rw [List.nil_append] at hown1
  have HK1 := Lib.hid K1
  have HF1 := Lib.hid F1
  have HO1 := Lib.hid hown1
  clear K1 F1 hown1 hgrow hat
  go_loopw [4, 28] (fun v i wr => EncRel w l v i wr) (fun _ i _ => n - (intOf i).toNat)
  case atStart => exact ⟨0, Nat.zero_le _, rfl, rfl, by rw [HN.out]; simpa [bytesAll] using HO1.out, HF1.out, HK1.out⟩
  case round =>
    obtain ⟨k, hk, rfl, hp, ho, hf, hK⟩ := hrel
    rename_i v wr
    obtain ⟨A2, q2, rfl⟩ := own_form ho
    by_cases hlt : k < n
    · have hlt' : k < l.length := by have := HN.out; omega
      obtain ⟨sb, so, hA, hsb, c0, c1, c2, c3, c4⟩ := ins_cells (HL.out.kept hK) hlt'
      subst hA
      have HO := Lib.hid ho
      have HF := Lib.hid hf
      have HK := Lib.hid hK
      have HP := Lib.hid hp
      clear ho hf hK hp
      have hPL := plain_calls l[k] (wr.alloc (.cells #[.int .i64 l[k].op, .int .i64 l[k].a, .int .i64 l[k].b, .int .i64 l[k].c, .int .u64 l[k].imm] 47)) (HT.out.kept (HK.out.alloc _))
      unfold insV at hPL
      obtain ⟨im0, im1⟩ := HI.out l[k] (List.getElem_mem _)
      have hB0 := Blk.new wr 47 #[.int .i64 l[k].op, .int .i64 l[k].a, .int .i64 l[k].b, .int .i64 l[k].c, .int .u64 l[k].imm]
      cases hpl : plainB l[k]
      · rw [hpl] at hPL
        have HPL := Lib.hid hpl
        clear hpl
        go_wp2_with fail
        refine hPL.mono ?_
        rintro e w2 ⟨rfl, K2⟩
        go_wp2_with fail
        go_ret2
        refine ⟨HK.out.trans (((Kept.refl _ _).alloc _).trans K2), .inr ⟨?_, rfl⟩⟩
        rw [List.all_eq_false]
        exact ⟨l[k], List.getElem_mem _, by rw [HPL.out]; decide⟩
      · rw [hpl] at hPL
        obtain ⟨⟨b0, b1⟩, ⟨b2, b3⟩, ⟨b4, b5⟩, b6, b7⟩ := plain_bounds hpl
        have HPL := Lib.hid hpl
        have HB0 := Lib.hid hB0
        clear hpl hB0
        generalize hd : l[k] = d at *
        obtain ⟨op, a, b, c, imm⟩ := d
        simp only at *
        have HD := Lib.hid hd
        clear hd
        go_wp2_with fail
        refine hPL.mono ?_
        rintro e w2 ⟨rfl, K2⟩
        have B2 := K2.blk HB0.out (fun h => h)
        have e0 : _ = some (Value.int .i64 op) := B2.cell 0
        have e1 : _ = some (Value.int .i64 a) := B2.cell 1
        have e2 : _ = some (Value.int .i64 b) := B2.cell 2
        have e3 : _ = some (Value.int .i64 c) := B2.cell 3
        have HE2 : Hid (Enc w w2 A2 q2 (4 + 12 * k) wr.heap.size #[.int .i64 op, .int .i64 a, .int .i64 b, .int .i64 c, .int .u64 imm] (bv (headL l.length ++ bytesAll (l.take k)))) :=
          Lib.hid ⟨(((Kept.refl (fun _ => False) wr).alloc _).trans K2).own HO.out (fun _ _ h => h), HF.out, HK.out.trans (((Kept.refl (fun _ => False) wr).alloc _).trans K2), B2⟩
        clear K2 B2
        go_wp2_with (at_builtin; refine wpList_append_own_at _ rfl (.tmp 35) (.tmp 48) 23 rfl 0 5 i0 _ 1 1 Tryd.underlying23 hi0 hz0 hz1 hz2 rfl (by decide) (.slice A2 (4 + 12 * k) q2) (4 + 12 * k) _ rfl (HE2.out.own.alloc _) ⟨w2.heap.size, 0, none⟩ 4 4 (bv [op, a, b, c]) rfl rfl (news_at _ _ _ _ (by simp)) (bv_one _) (by unfold maxLen; omega) (by omega) (Nat.zero_le _) ?_; intro v3 w3 hown3 hgrow3 _ hat3; obtain ⟨A3, q3, rfl⟩ := own_form hown3)
        have HE3 := Lib.hid (HE2.out.push hown3 hgrow3 hat3)
        clear hown3 hgrow3 hat3
        go_loopw [4, 50] (fun v i wr' => ∃ (j : Nat) (A : Option Addr) (q : Nat) (W : World), W = wr' ∧ j ≤ 8 ∧ i = .int .i64 j ∧ v = .slice A (4 + 12 * k + 4 + j) q ∧ Enc w W A q (4 + 12 * k + 4 + j) wr.heap.size #[.int .i64 op, .int .i64 a, .int .i64 b, .int .i64 c, .int .u64 imm] (bv (headL l.length ++ bytesAll (l.take k)) ++ bv [op, a, b, c] ++ bv (immL imm j))) (fun _ i _ => 8 - (intOf i).toNat)
        case atStart => exact ⟨0, A3, q3, _, rfl, by omega, rfl, rfl, by simpa [immL, bv] using HE3.out⟩
        case round =>
          obtain ⟨j, A4, q4, W, rfl, hj, rfl, rfl, E4⟩ := hrel
          by_cases hj8 : j < 8
          · have d4 : _ = some (Value.int .u64 imm) := E4.blk.cell 4
            have HE4 := Lib.hid E4
            clear E4
            go_wp2_with (at_builtin; go_loud (refine wpList_append_own_at _ rfl (.tmp 53) (.tmp 60) 23 rfl 0 5 i0 _ 1 1 Tryd.underlying23 hi0 hz0 hz1 hz2 rfl (by decide) (.slice A4 (4 + 12 * k + 4 + j) q4) (4 + 12 * k + 4 + j) _ rfl (HE4.out.own.alloc _) ⟨W.heap.size, 0, none⟩ 1 1 (bv [_]) rfl rfl (news_at _ _ _ _ (by simp)) (bv_one _) (by unfold maxLen; omega) (by omega) (Nat.zero_le _) ?_); intro v5 w5 hown5 hgrow5 _ hat5; obtain ⟨A5, q5, rfl⟩ := own_form hown5)
            have HE5 := Lib.hid (HE4.out.push hown5 hgrow5 hat5)
            clear hown5 hgrow5 hat5
            exact ⟨⟨j + 1, A5, q5, w5, rfl, by omega, rfl, rfl, by rw [immL_succ, bv_append (immL imm j), ← List.append_assoc]; exact HE5.out⟩, by simp [intOf]; omega⟩
          · have hj' : j = 8 := by omega
            subst hj'
            have HE4 := Lib.hid E4
            clear E4
            go_wp2_with fail
            refine ⟨⟨k + 1, by omega, rfl, ?_, ?_, HE4.out.fresh, HE4.out.kept⟩, by simp [intOf]; omega⟩
            · rw [List.take_succ_eq_append_getElem hlt', List.all_append, HP.out, HD.out]
              simp [HPL.out]
            · have h := HE4.out.own
              rw [List.append_assoc, ← bv_append, ← bv_append, List.append_assoc] at h
              rw [bytesAll_snoc l k hlt', HD.out]
              exact h
    · have hkn : k = n := by have := HN.out; omega
      subst hkn
      have hl' := HN.out
      rw [List.take_of_length_le (by omega)] at ho hp
      have HO := Lib.hid ho
      have HF := Lib.hid hf
      have HK := Lib.hid hK
      have HP := Lib.hid hp
      clear ho hf hK hp hl'
      go_wp2_with fail
      go_ret2
      refine ⟨HK.out, .inl ⟨HP.out, A2, q2, ?_, ?_, fun x hx => HF.out x.block (by rw [hx]; rfl)⟩⟩
      · rw [HN.out]
        rfl
      · have := HO.out
        rw [HN.out]
        exact this

end Go.Proofs.YtkinnhdagdkhcaaDoor
