/- Layer 3 (instr): Decode. -/
import Derived.Test.YtkinnhdagdkhcaaDoorInsF
namespace Go.Proofs.YtkinnhdagdkhcaaDoor
open Go.RowKit

/-- What bytes are decoded as. -/
def cntL (bs : List Int) : Nat := (bs.getD 2 0 + 256 * bs.getD 3 0).toNat
def insAll (bs : List Int) (n : Nat) : List InsD := (List.range n).map fun k => insOf ((bs.drop (4 + 12 * k)).take 12)
def decErr (bs : List Int) : Int :=
  if bs.length < 4 then 34 else if bs.getD 0 0 ≠ 84 ∨ bs.getD 1 0 ≠ 66 then 33 else if 256 < cntL bs then 3 else if bs.length < 4 + 12 * cntL bs then 34 else if 4 + 12 * cntL bs < bs.length then 35
  else if (insAll bs (cntL bs)).all plainB = true then 0 else 30
theorem insAll_succ (bs : List Int) (k : Nat) : insAll bs (k + 1) = insAll bs k ++ [insOf ((bs.drop (4 + 12 * k)).take 12)] := by
  unfold insAll
  rw [List.range_succ, List.map_append]
  rfl
theorem insAll_length (bs : List Int) (k : Nat) : (insAll bs k).length = k := by simp [insAll]

def DecPost (w : World) (bs : List Int) (e : Ending) (w' : World) : Prop :=
  Kept (fun _ => False) w w' ∧
  ((decErr bs = 0 ∧ ∃ A c, e = .returned (.tuple #[.slice A (cntL bs) c, .int .i64 0]) ∧ w'.ownsRow 0 47 5 (.slice A (cntL bs) c) (cntL bs) (flatI (insAll bs (cntL bs))) ∧ ∀ x, A = some x → w.heap.size ≤ x.block) ∨
   (decErr bs ≠ 0 ∧ e = .returned (.tuple #[.slice none 0 0, .int .i64 (decErr bs)])))

theorem DecPost.err {w : World} {bs : List Int} {x : Int} (hx : decErr bs = x) (h0 : x ≠ 0) {w' : World} (k : Kept (fun _ => False) w w') : DecPost w bs (.returned (.tuple #[.slice none 0 0, .int .i64 x])) w' :=
  ⟨k, .inr ⟨by rw [hx]; exact h0, by rw [hx]⟩⟩

set_option maxRecDepth 100000 in
set_option maxHeartbeats 4000000 in
theorem decode_walk (w : World) (A : Option Addr) (n c : Nat) (bs : List Int) (hn : bs.length = n) (hm : n ≤ maxLen) (hcap : n ≤ c) (hb : BytesAt w A bs) (hB : ByteL bs) (T : Tabs w) :
    Calls Tryd.prog 12 #[.slice A n c] w (DecPost w bs) := by
  unfold maxLen at hm
  by_cases h4 : n < 4
  · have hE : decErr bs = 34 := by unfold decErr; rw [if_pos (by omega)]
    have HE := Lib.hid hE
    clear hE hn
    go_enter Tryd.func12, Tryd.ntmps12
    go_wp2
    go_ret2
    exact DecPost.err HE.out (by decide) (Kept.refl _ _)
  obtain ⟨bb, off, rfl, hbl, hcc⟩ := hb (by omega)
  obtain ⟨x0, hx0⟩ : ∃ x, bs[0]? = some x := ⟨_, List.getElem?_eq_getElem (by omega)⟩
  obtain ⟨x1, hx1⟩ : ∃ x, bs[1]? = some x := ⟨_, List.getElem?_eq_getElem (by omega)⟩
  obtain ⟨x2, hx2⟩ : ∃ x, bs[2]? = some x := ⟨_, List.getElem?_eq_getElem (by omega)⟩
  obtain ⟨x3, hx3⟩ : ∃ x, bs[3]? = some x := ⟨_, List.getElem?_eq_getElem (by omega)⟩
  have c0 := hcc 0 x0 hx0
  have c1 := hcc 1 x1 hx1
  have c2 := hcc 2 x2 hx2
  have c3 := hcc 3 x3 hx3
  rw [Nat.add_zero] at c0
  obtain ⟨a2, b2⟩ := hB x2 (List.mem_of_getElem? hx2)
  obtain ⟨a3, b3⟩ := hB x3 (List.mem_of_getElem? hx3)
  have g0 : bs.getD 0 0 = x0 := by simp [List.getD, hx0]
  have g1 : bs.getD 1 0 = x1 := by simp [List.getD, hx1]
  have hcn : cntL bs = (x2 + 256 * x3).toNat := by simp [cntL, List.getD, hx2, hx3]
  have HC := Lib.hid hcc
  have HB := Lib.hid hB
  have HT := Lib.hid T
  have HN := Lib.hid hn
  have HX := Lib.hid (⟨g0, g1, hcn⟩ : _ ∧ _ ∧ _)
  clear hcc hB T hn hx0 hx1 hx2 hx3 hb g0 g1 hcn
  have j0 : ¬ (n : Int) ≤ 2 := by omega
  have j1 : ¬ (n : Int) ≤ 3 := by omega
  have j2 : (2 : Int) < n := by omega
  have j3 : (3 : Int) < n := by omega
  by_cases hf : x0 = 84 ∧ x1 = 66
  · obtain ⟨rfl, rfl⟩ := hf
    go_enter Tryd.func12, Tryd.ntmps12
    go_wp2_with fail
    have e2 : IntKind.i64.wrap x2 = x2 := by rw [IntKind.wrap_i64]; omega
    have e3 : IntKind.i64.wrap x3 = x3 := by rw [IntKind.wrap_i64]; omega
    have e4 : IntKind.i64.wrap (x3 * 256) = x3 * 256 := by rw [IntKind.wrap_i64]; omega
    go_region_held3 (fun W => W.cell? ⟨bb, off + 2, none⟩ = some (.int .u8 x2) ∧ W.cell? ⟨bb, off + 3, none⟩ = some (.int .u8 x3))
      (exact ⟨c2, c3⟩)
      (fail)
    obtain ⟨m, hmc⟩ : ∃ m, m = cntL bs := ⟨_, rfl⟩
    have hor : bits BinOp.or IntKind.i64 x2 (x3 * 256) = (m : Int) := by
      rw [or_count x2 x3 a2 b2 a3 b3, hmc, HX.out.2.2]
      omega
    have hm0 : m ≤ 65535 := by rw [hmc, HX.out.2.2]; omega
    have HM := Lib.hid hmc
    have HOR := Lib.hid hor
    clear e2 e3 e4 hmc hor
    rw [HOR.out]
    by_cases h256 : 256 < m
    · have hE : decErr bs = 3 := by
        obtain ⟨g0, g1, _⟩ := HX.out
        unfold decErr
        rw [if_neg (by rw [HN.out]; exact h4), if_neg (by rw [g0, g1]; omega), if_pos (by rw [← HM.out]; exact h256)]
      have HE := Lib.hid hE
      clear hE
      go_wp2_with fail
      go_ret2
      exact DecPost.err HE.out (by decide) (Kept.refl _ _).drew
    by_cases hs : n < 4 + 12 * m
    · have hE : decErr bs = 34 := by
        obtain ⟨g0, g1, _⟩ := HX.out
        unfold decErr
        rw [if_neg (by rw [HN.out]; exact h4), if_neg (by rw [g0, g1]; omega), if_neg (by rw [← HM.out]; exact h256), if_pos (by rw [← HM.out, HN.out]; exact hs)]
      have HE := Lib.hid hE
      clear hE
      go_wp2_with fail
      go_ret2
      exact DecPost.err HE.out (by decide) (Kept.refl _ _).drew
    by_cases hg : 4 + 12 * m < n
    · have hE : decErr bs = 35 := by
        obtain ⟨g0, g1, _⟩ := HX.out
        unfold decErr
        rw [if_neg (by rw [HN.out]; exact h4), if_neg (by rw [g0, g1]; omega), if_neg (by rw [← HM.out]; exact h256), if_neg (by rw [← HM.out, HN.out]; exact hs), if_pos (by rw [← HM.out, HN.out]; exact hg)]
      have HE := Lib.hid hE
      clear hE
      go_wp2_with fail
      go_ret2
      exact DecPost.err HE.out (by decide) (Kept.refl _ _).drew
    have hnm : n = 4 + 12 * m := by omega
    have hE : decErr bs = if (insAll bs m).all plainB = true then 0 else 30 := by
      obtain ⟨g0, g1, _⟩ := HX.out
      unfold decErr
      rw [if_neg (by rw [HN.out]; exact h4), if_neg (by rw [g0, g1]; omega), if_neg (by rw [← HM.out]; exact h256), if_neg (by rw [← HM.out, HN.out]; exact hs), if_neg (by rw [← HM.out, HN.out]; exact hg), ← HM.out]
    have HE := Lib.hid hE
    have hn1 : 4 + 12 * m ≤ n := by omega
    have hn2 : n ≤ 4 + 12 * m := by omega
    have HNM := Lib.hid hnm
    clear hE hs hg h4 j0 j1 j2 j3 c0 c1 c2 c3 hnm
    obtain ⟨i0, hi0, hz0, hz1, hz2⟩ := info_parts' infoIns
    have hmk : ∀ W : World, (Instr.makeSlice 22 (.int .i64 0) (.int .i64 (m : Int))).run Tryd.prog W = .ok (.slice (some ⟨W.heap.size, 0, none⟩) 0 m) (W.alloc (.cells (madeCells (Value.agg #[.int .i64 0, .int .i64 0, .int .i64 0, .int .i64 0, .int .u64 0]).cells (m * 5)) 47)) := fun W => by
      have h := run_make (P := Tryd.prog) W 22 47 i0 _ Tryd.underlying22 hi0 hz0 .i64 .i64 0 (m : Int) (by omega) (by omega) (by rw [hz2]; omega) (by omega)
      simpa [hz1] using h
    obtain ⟨Z, hZ⟩ : ∃ Z, Z = madeCells (Value.agg #[.int .i64 0, .int .i64 0, .int .i64 0, .int .i64 0, .int .u64 0]).cells (m * 5) := ⟨_, rfl⟩
    rw [← hZ] at hmk
    have hZs : Z.size = m * 5 := by rw [hZ]; simp [madeCells]
    have HZ := Lib.hid hZs
    clear hZ hZs
    go_wp2_with fail
    go_loopw [6, 7] (fun v i wr' => ∃ (k : Nat) (A : Option Addr) (q : Nat) (W : World), W = wr' ∧ k ≤ m ∧ v = .slice A k q ∧ i = .int .i64 (4 + 12 * (k : Int)) ∧ (insAll bs k).all plainB = true ∧
      W.ownsRow 0 47 5 (.slice A k q) k (flatI (insAll bs k)) ∧ (∀ x, (Value.slice A k q).ownBlock = some x → w.heap.size ≤ x) ∧ Kept (fun _ => False) w W) (fun _ i _ => 4 + 12 * m - (intOf i).toNat)
    case atStart => exact ⟨0, some ⟨w.heap.size, 0, none⟩, m, _, rfl, Nat.zero_le _, rfl, rfl, rfl, World.ownsRow_made w Z m (Nat.zero_le _) (by unfold maxLen; omega) HZ.out, fun x hx => by simp [Value.ownBlock] at hx; omega, ((Kept.refl _ _).alloc _).drew⟩
    case round =>
      obtain ⟨k, A, q, W, rfl, hk, rfl, rfl, hp, ho, hf, hK⟩ := hrel
      by_cases hlt : k < m
      · have HP := Lib.hid hp
        have HO := Lib.hid ho
        have HF := Lib.hid hf
        have HK := Lib.hid hK
        clear hp ho hf hK
        have z0 : (4 + 12 * (k : Int)).toNat = 4 + 12 * k := by omega
        have hl12 : ((bs.drop (4 + 12 * k)).take 12).length = 12 := by have := HN.out; simp; omega
        have hcap' : ¬ c = 4 + 12 * k := by omega
        have hD1 := decodeOne_calls W bb (off + (4 + 12 * k)) (c - (4 + 12 * k)) ((bs.drop (4 + 12 * k)).take 12) hl12
          (fun j x hx => by
            rw [List.getElem?_take] at hx
            split at hx
            · rw [List.getElem?_drop] at hx
              have := HK.out.cell_some (fun h => h) (HC.out _ x hx)
              rwa [← Nat.add_assoc] at this
            · cases hx) (Nat.lt_of_lt_of_le hbl HK.out.size) ((HB.out.drop _).take _)
        have hsn := insAll_succ bs k
        obtain ⟨d, hd⟩ : ∃ d, d = insOf ((bs.drop (4 + 12 * k)).take 12) := ⟨_, rfl⟩
        rw [← hd] at hD1 hsn
        have hPl := plain_calls d
        obtain ⟨op, a, b, c', imm⟩ := d
        have HSN := Lib.hid hsn
        have HPL := Lib.hid hPl
        clear hd hsn hl12 hPl
        go_wp2_with fail
        refine hD1.mono ?_
        rintro e w2 ⟨rfl, K2⟩
        simp only [insV]
        have HK2 := Lib.hid (HK.out.trans K2)
        have HO2 := Lib.hid (K2.own HO.out (fun _ _ h => h))
        clear K2 hD1
        cases hpl : plainB ⟨op, a, b, c', imm⟩
        · have HPB := Lib.hid hpl
          go_wp2_with fail
          refine (HPL.out _ (HT.out.kept (HK2.out.alloc _))).mono ?_
          rintro e w3 ⟨rfl, K3⟩
          have HK3 := Lib.hid K3
          clear K3
          rw [HPB.out]
          clear hpl
          go_wp2_with fail
          go_ret2
          refine DecPost.err ?_ (by decide) ((HK2.out.alloc _).trans HK3.out)
          rw [HE.out, if_neg]
          intro hall
          rw [List.all_eq_true] at hall
          have hmem : (⟨op, a, b, c', imm⟩ : InsD) ∈ insAll bs m := by
            have hin : (insAll bs (k + 1))[k]? = some ⟨op, a, b, c', imm⟩ := by rw [HSN.out, List.getElem?_append_right (by rw [insAll_length]; omega), insAll_length]; simp
            have hkm : (insAll bs m)[k]? = (insAll bs (k + 1))[k]? := by simp [insAll, hlt]
            exact List.mem_of_getElem? (hkm.trans hin)
          have := hall _ hmem
          rw [HPB.out] at this
          cases this
        · have HPB := Lib.hid hpl
          go_wp2_with fail
          refine (HPL.out _ (HT.out.kept (HK2.out.alloc _))).mono ?_
          rintro e w3 ⟨rfl, K3⟩
          have HK3 := Lib.hid K3
          have B3 := K3.blk (Blk.new w2 47 #[.int .i64 op, .int .i64 a, .int .i64 b, .int .i64 c', .int .u64 imm]) (fun h => h)
          have e0 : _ = some (Value.int .i64 op) := B3.cell 0
          have e1 : _ = some (Value.int .i64 a) := B3.cell 1
          have e2 : _ = some (Value.int .i64 b) := B3.cell 2
          have e3 : _ = some (Value.int .i64 c') := B3.cell 3
          have e4 : _ = some (Value.int .u64 imm) := B3.cell 4
          have HO3 := Lib.hid (K3.own (HO2.out.alloc _) (fun _ _ h => h))
          clear K3 B3
          rw [HPB.out]
          clear hpl
          go_wp2_with (at_builtin; refine wpList_append_own_at _ rfl (.tmp 61) (.tmp 63) 22 rfl 0 47 i0 _ 5 40 Tryd.underlying22 hi0 hz0 hz1 hz2 rfl (by decide) (.slice A k q) k _ rfl (HO3.out.alloc _) ⟨w3.heap.size, 0, none⟩ 1 1 (flatI [⟨op, a, b, c', imm⟩]) rfl rfl (news_at _ _ _ _ (by simp)) (flatI_one' _) (by unfold maxLen; omega) (by omega) (Nat.zero_le _) ?_; intro v5 w5 hown5 hgrow5 _ hat5; obtain ⟨A5, q5, rfl⟩ := own_form hown5)
          go_roundw
          case measure => simp [intOf]; omega
          case rel => 
          refine ⟨k + 1, A5, q5, w5, rfl, by omega, rfl, by go_num, ?_, ?_, ?_, ?_⟩
          · rw [HSN.out, List.all_append, HP.out]
            simp [HPB.out]
          · rw [HSN.out, flatI_append]
            exact hown5
          · exact fresh_push (((HK2.out.alloc _).trans HK3.out).alloc _) HF.out hat5
          · exact Kept.push (((HK2.out.alloc _).trans HK3.out).alloc _) hgrow5 HF.out
      · have hkm : k = m := by omega
        subst hkm
        have HP := Lib.hid hp
        have HO := Lib.hid ho
        have HF := Lib.hid hf
        have HK := Lib.hid hK
        clear hp ho hf hK
        go_wp2_with fail
        go_ret2
        refine ⟨HK.out, .inl ⟨by rw [HE.out, if_pos HP.out], A, q, ?_, ?_, fun x hx => HF.out x.block (by rw [hx]; rfl)⟩⟩
        · rw [← HM.out]
          rfl
        · rw [← HM.out]
          exact HO.out
  · have hE : decErr bs = 33 := by
      obtain ⟨g0, g1, _⟩ := HX.out
      unfold decErr
      rw [if_neg (by rw [HN.out]; exact h4), if_pos (by rw [g0, g1]; omega)]
    have HE := Lib.hid hE
    clear hE
    by_cases h0 : x0 = 84
    · subst h0
      have h1 : (x1 == 66) = false := by simpa using hf
      have h1' : (!(x1 == 66)) = true := by rw [h1]; rfl
      go_enter Tryd.func12, Tryd.ntmps12
      go_wp2
      go_ret2
      exact DecPost.err HE.out (by decide) (Kept.refl _ _)
    · have h1 : (x0 == 84) = false := by simpa using h0
      have h1' : (!(x0 == 84)) = true := by rw [h1]; rfl
      go_enter Tryd.func12, Tryd.ntmps12
      go_wp2
      go_ret2
      exact DecPost.err HE.out (by decide) (Kept.refl _ _)

end Go.Proofs.YtkinnhdagdkhcaaDoor
