/- Layer 3 (instr): what is encoded is decoded, and back (plain mathematics); Same of one list twice. -/
import Derived.Test.YtkinnhdagdkhcaaDoorInsS
import Derived.Deep.RegionHeld3
namespace Go.Proofs.YtkinnhdagdkhcaaDoor
open Go.RowKit

theorem encL_get0 (l : List InsD) : (encL l).getD 0 0 = 84 ∧ (encL l).getD 1 0 = 66 ∧ (encL l).getD 2 0 = (l.length : Int) % 256 ∧ (encL l).getD 3 0 = (l.length : Int) / 256 := ⟨rfl, rfl, rfl, rfl⟩
theorem encL_cnt (l : List InsD) : cntL (encL l) = l.length := by
  unfold cntL
  rw [(encL_get0 l).2.2.1, (encL_get0 l).2.2.2]
  omega
theorem insOf_bytes (d : InsD) (h : 0 ≤ d.imm ∧ d.imm < 18446744073709551616) : insOf (bytesOf d) = d := by
  have hd : ((bytesOf d).drop 4).take 8 = immL d.imm 8 := by
    show (immL d.imm 8).take 8 = _
    exact List.take_of_length_le (by rw [immL_length]; exact Nat.le_refl _)
  unfold insOf
  rw [hd, getL_immL d.imm h.1 h.2]
  rfl
theorem bytesOf_ins (l : List Int) (h : ByteL l) (h12 : l.length = 12) : bytesOf (insOf l) = l := by
  have h8 : ((l.drop 4).take 8).length = 8 := by simp; omega
  match l, h12 with
  | x0 :: x1 :: x2 :: x3 :: r, h12 =>
    have hr : r.length = 8 := by simp at h12; omega
    have ht : (((x0 :: x1 :: x2 :: x3 :: r).drop 4).take 8) = r := by
      show r.take 8 = r
      exact List.take_of_length_le (by omega)
    unfold bytesOf insOf
    simp only [ht]
    rw [immL_getL r (fun x hx => h x (by simp [hx])) hr]
    rfl
theorem chunk (l : List InsD) (k : Nat) (hk : k < l.length) : ((bytesAll l).drop (12 * k)).take 12 = bytesOf l[k] := by
  induction l generalizing k with
  | nil => simp at hk
  | cons d l ih =>
    have hc : bytesAll (d :: l) = bytesOf d ++ bytesAll l := by simp [bytesAll]
    rw [hc]
    cases k with
    | zero =>
      rw [Nat.mul_zero, List.drop_zero, List.take_append_of_le_length (by rw [bytesOf_length]; exact Nat.le_refl _), List.take_of_length_le (by rw [bytesOf_length]; exact Nat.le_refl _)]
      rfl
    | succ k =>
      rw [show 12 * (k + 1) = 12 + 12 * k by omega, ← List.drop_drop, List.drop_left' (bytesOf_length d)]
      exact ih k (by simpa using hk)
theorem insAll_enc (l : List InsD) (h : ∀ d ∈ l, 0 ≤ d.imm ∧ d.imm < 18446744073709551616) : insAll (encL l) l.length = l := by
  apply List.ext_getElem
  · rw [insAll_length]
  · intro k h1 h2
    simp only [insAll, List.getElem_map, List.getElem_range]
    rw [← List.drop_drop, encL_drop, chunk l k h2, insOf_bytes _ (h _ (List.getElem_mem _))]
theorem dec_enc (l : List InsD) (h : ∀ d ∈ l, 0 ≤ d.imm ∧ d.imm < 18446744073709551616) (hp : l.all plainB = true) (hn : l.length ≤ 256) : decErr (encL l) = 0 := by
  unfold decErr
  rw [encL_cnt, encL_length, insAll_enc l h, hp, (encL_get0 l).1, (encL_get0 l).2.1]
  rw [if_neg (by omega), if_neg (by decide), if_neg (by omega), if_neg (by omega), if_neg (by omega)]
  rfl
theorem getD_take (l : List Int) (k j : Nat) (hj : j < k) : (l.take k).getD j 0 = l.getD j 0 := by
  simp [List.getD, hj]
theorem dec_short (l : List InsD) (hn : l.length ≤ 256) (k : Nat) (hk : k < 4 + 12 * l.length) : decErr ((encL l).take k) = 34 := by
  have hlen : ((encL l).take k).length = k := by rw [List.length_take, encL_length]; omega
  unfold decErr
  rw [hlen]
  by_cases h4 : k < 4
  · rw [if_pos h4]
  · have hc : cntL ((encL l).take k) = l.length := by
      rw [← encL_cnt l]
      unfold cntL
      rw [getD_take _ _ _ (by omega), getD_take _ _ _ (by omega)]
    rw [hc, getD_take _ _ _ (by omega), getD_take _ _ _ (by omega), (encL_get0 l).1, (encL_get0 l).2.1, if_neg h4, if_neg (by decide), if_neg (by omega), if_pos hk]
theorem getD_app (l r : List Int) (j : Nat) (hj : j < l.length) : (l ++ r).getD j 0 = l.getD j 0 := by
  simp [List.getD, List.getElem?_append_left hj]
theorem dec_more (l : List InsD) (hn : l.length ≤ 256) (x : Int) : decErr (encL l ++ [x]) = 35 := by
  have hlen : (encL l ++ [x]).length = 4 + 12 * l.length + 1 := by rw [List.length_append, encL_length]; rfl
  have h4 : ∀ j, j < 4 → j < (encL l).length := fun j hj => by rw [encL_length]; omega
  have hc : cntL (encL l ++ [x]) = l.length := by
    rw [← encL_cnt l]
    unfold cntL
    rw [getD_app _ _ _ (h4 2 (by omega)), getD_app _ _ _ (h4 3 (by omega))]
  unfold decErr
  rw [hlen, hc, getD_app _ _ _ (h4 0 (by omega)), getD_app _ _ _ (h4 1 (by omega)), (encL_get0 l).1, (encL_get0 l).2.1, if_neg (by omega), if_neg (by decide), if_neg (by omega), if_neg (by omega), if_pos (by omega)]

/-- Bytes that are decoded: what they are. -/
theorem dec_parts (bs : List Int) (h : decErr bs = 0) : 4 ≤ bs.length ∧ bs.getD 0 0 = 84 ∧ bs.getD 1 0 = 66 ∧ cntL bs ≤ 256 ∧ bs.length = 4 + 12 * cntL bs ∧ (insAll bs (cntL bs)).all plainB = true := by
  unfold decErr at h
  split at h
  · cases h
  split at h
  · cases h
  split at h
  · cases h
  split at h
  · cases h
  split at h
  · cases h
  split at h
  · refine ⟨by omega, ?_, ?_, by omega, by omega, by assumption⟩
    · rename_i hf _ _ _ _
      exact Decidable.byContradiction fun hh => hf (.inl hh)
    · rename_i hf _ _ _ _
      exact Decidable.byContradiction fun hh => hf (.inr hh)
  · cases h
theorem bytesAll_insAll (bs : List Int) (hB : ByteL bs) : ∀ n : Nat, 4 + 12 * n ≤ bs.length → bytesAll (insAll bs n) = (bs.drop 4).take (12 * n)
  | 0, _ => by simp [insAll, bytesAll]
  | n + 1, h => by
    rw [insAll_succ, bytesAll_append, bytesAll_insAll bs hB n (by omega)]
    have h1 : bytesAll [insOf ((bs.drop (4 + 12 * n)).take 12)] = (bs.drop (4 + 12 * n)).take 12 := by
      have : bytesAll [insOf ((bs.drop (4 + 12 * n)).take 12)] = bytesOf (insOf ((bs.drop (4 + 12 * n)).take 12)) := by simp [bytesAll]
      rw [this]
      exact bytesOf_ins _ ((hB.drop _).take _) (by simp; omega)
    rw [h1, show 12 * (n + 1) = 12 * n + 12 by omega, List.take_add, List.drop_drop]
theorem enc_dec (bs : List Int) (hB : ByteL bs) (h : decErr bs = 0) : encL (insAll bs (cntL bs)) = bs := by
  obtain ⟨h4, g0, g1, hc, hlen, _⟩ := dec_parts bs h
  unfold encL
  rw [insAll_length, bytesAll_insAll bs hB (cntL bs) (by omega), List.take_of_length_le (by simp; omega)]
  match bs, h4 with
  | x0 :: x1 :: x2 :: x3 :: r, _ =>
    have hx0 : x0 = 84 := g0
    have hx1 : x1 = 66 := g1
    obtain ⟨a2, b2⟩ := hB x2 (by simp)
    obtain ⟨a3, b3⟩ := hB x3 (by simp)
    have hcn : cntL (x0 :: x1 :: x2 :: x3 :: r) = (x2 + 256 * x3).toNat := rfl
    rw [hcn]
    unfold headL
    have e2 : (((x2 + 256 * x3).toNat : Nat) : Int) % 256 = x2 := by omega
    have e3 : (((x2 + 256 * x3).toNat : Nat) : Int) / 256 = x3 := by omega
    rw [e2, e3, hx0, hx1]
    rfl
theorem insAll_imm (bs : List Int) (hB : ByteL bs) (n : Nat) : ∀ d ∈ insAll bs n, 0 ≤ d.imm ∧ d.imm < 18446744073709551616 := by
  intro d hd
  obtain ⟨k, _, rfl⟩ := List.mem_map.1 hd
  have hl := getL_bound _ ((((hB.drop (4 + 12 * k)).take 12).drop 4).take 8)
  have h8 : ((((bs.drop (4 + 12 * k)).take 12).drop 4).take 8).length ≤ 8 := List.length_take_le _ _
  refine ⟨hl.1, Int.lt_of_lt_of_le hl.2 ?_⟩
  generalize ((((bs.drop (4 + 12 * k)).take 12).drop 4).take 8).length = L at *
  match L, h8 with
  | 0, _ => decide
  | 1, _ => decide
  | 2, _ => decide
  | 3, _ => decide
  | 4, _ => decide
  | 5, _ => decide
  | 6, _ => decide
  | 7, _ => decide
  | 8, _ => decide
  | L + 9, h => omega

def Cells5 (W : World) (b off : Nat) (d : InsD) : Prop := W.cell? ⟨b, off, none⟩ = some (.int .i64 d.op) ∧ W.cell? ⟨b, off + 1, none⟩ = some (.int .i64 d.a) ∧ W.cell? ⟨b, off + 2, none⟩ = some (.int .i64 d.b) ∧ W.cell? ⟨b, off + 3, none⟩ = some (.int .i64 d.c) ∧ W.cell? ⟨b, off + 4, none⟩ = some (.int .u64 d.imm)

set_option maxRecDepth 100000 in
set_option maxHeartbeats 2000000 in
theorem same_calls (w : World) (A B : Option Addr) (n c d : Nat) (l : List InsD) (hn : l.length = n) (hm : n ≤ 1000) (hA : InsAt w A l) (hB : InsAt w B l) :
    Calls Tryd.prog 14 #[.slice A n c, .slice B n d] w fun e w' => e = .returned (.bool true) ∧ Kept (fun _ => False) w w' := by
  have HN := Lib.hid hn
  have HA := Lib.hid hA
  have HB := Lib.hid hB
  clear hn hA hB
  go_enter Tryd.func14, Tryd.ntmps14
  go_wp2_with fail
  go_loopw [5] (fun i wr' => ∃ (k : Nat) (W : World), W = wr' ∧ k ≤ n ∧ i = .int .i64 k ∧ Kept (fun _ => False) w W) (fun i _ => n - (intOf i).toNat)
  case atStart => exact ⟨0, _, rfl, by omega, rfl, Kept.refl _ _⟩
  case round =>
    obtain ⟨k, W, rfl, hk, rfl, K⟩ := hrel
    have HK := Lib.hid K
    clear K
    by_cases hlt : k < n
    · have hlt' : k < l.length := by have := HN.out; omega
      obtain ⟨b1, o1, hA1, hb1, c0, c1, c2, c3, c4⟩ := ins_cells (HA.out.kept HK.out) hlt'
      obtain ⟨b2, o2, hA2, hb2, d0, d1, d2, d3, d4⟩ := ins_cells (HB.out.kept HK.out) hlt'
      subst hA1 hA2
      have H1 := Lib.hid (show Cells5 W.drew b1 (o1 + k * 5) l[k] from ⟨c0, c1, c2, c3, c4⟩)
      have H2 := Lib.hid (show Cells5 W.drew b2 (o2 + k * 5) l[k] from ⟨d0, d1, d2, d3, d4⟩)
      have hne := run_ins_neq
      have k1 : (0 : Int) ≤ k := by omega
      have k2 : (k : Int) < n := by omega
      have k3 : ¬ (n : Int) ≤ k := by omega
      go_wp2_with fail
      go_region_held3 (fun W => (W.cell? ⟨b1, o1 + k * 5, none⟩ = some (.int .i64 l[k].op) ∧ W.cell? ⟨b1, o1 + k * 5 + 1, none⟩ = some (.int .i64 l[k].a) ∧ W.cell? ⟨b1, o1 + k * 5 + 2, none⟩ = some (.int .i64 l[k].b) ∧ W.cell? ⟨b1, o1 + k * 5 + 3, none⟩ = some (.int .i64 l[k].c) ∧ W.cell? ⟨b1, o1 + k * 5 + 4, none⟩ = some (.int .u64 l[k].imm)) ∧
          (W.cell? ⟨b2, o2 + k * 5, none⟩ = some (.int .i64 l[k].op) ∧ W.cell? ⟨b2, o2 + k * 5 + 1, none⟩ = some (.int .i64 l[k].a) ∧ W.cell? ⟨b2, o2 + k * 5 + 2, none⟩ = some (.int .i64 l[k].b) ∧ W.cell? ⟨b2, o2 + k * 5 + 3, none⟩ = some (.int .i64 l[k].c) ∧ W.cell? ⟨b2, o2 + k * 5 + 4, none⟩ = some (.int .u64 l[k].imm)))
        (exact ⟨H1.out, H2.out⟩) (fail)
      all_goals
        go_wp2_with fail
        exact ⟨⟨k + 1, _, rfl, by omega, rfl, HK.out.drew⟩, by simp [intOf]; omega⟩
    · go_wp2_with fail
      go_ret
      exact ⟨rfl, HK.out⟩

end Go.Proofs.YtkinnhdagdkhcaaDoor
