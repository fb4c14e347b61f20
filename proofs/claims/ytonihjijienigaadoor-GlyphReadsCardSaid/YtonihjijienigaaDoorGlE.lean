/- Layer 2 (glyph): numbers, signs, read. -/
import Derived.Test.YtonihjijienigaaDoorGlD
namespace Go.Proofs.YtonihjijienigaaDoor
open Go.RowKit

def numP (p : ByteArray) : Tok × Int :=
  match Lib.parseUintB 64 p.data.toList with
  | .ok u => if 1 < p.size ∧ (p.get! 0).toNat = 48 then (tok0, 22) else (⟨1, ⟨#[]⟩, u, 0, 0⟩, 0)
  | _ => (tok0, 22)

theorem parse_ok (p : ByteArray) (w : World) (hs : p.size ≤ 70000) (u : Nat) (h : Lib.parseUintB 64 p.data.toList = .ok u) :
    Calls Tryd.prog 45 #[.string p, .int .i64 10, .int .i64 64] w fun e w' => e = .returned (.tuple #[.int .u64 u, .nilIface]) ∧ Below w.heap.size w w' := by
  refine (Tryd.strconv_ParseUint_10_at64_ok p (by omega) u h w).mono ?_
  rintro e w' ⟨rfl, rfl | rfl⟩
  · exact ⟨rfl, Below.refl _ _⟩
  · exact ⟨rfl, Lib.bytesWorld_below _ _ _⟩
theorem parse_bad (p : ByteArray) (w : World) (hs : p.size ≤ 70000) (hL : LibV w) (h : ∀ u, Lib.parseUintB 64 p.data.toList ≠ .ok u) :
    Calls Tryd.prog 45 #[.string p, .int .i64 10, .int .i64 64] w fun e w' => (∃ v N, e = .returned (.tuple #[.int .u64 v, .iface 101 (.pointer (some ⟨N, 0, none⟩))])) ∧ Below w.heap.size w w' := by
  cases hp : Lib.parseUintB 64 p.data.toList with
  | ok u => exact absurd hp (h u)
  | «syntax» =>
    obtain ⟨tp, q, hv⟩ := hL.syn
    refine (Tryd.strconv_ParseUint_10_at64_syntax_var p (by omega) hp tp q w hv).mono ?_
    rintro e w' ⟨N, rfl, _, _, hb⟩
    exact ⟨⟨_, N, rfl⟩, hb⟩
  | range =>
    obtain ⟨tp, q, hv⟩ := hL.rng
    refine (Tryd.strconv_ParseUint_10_at64_range_var p (by omega) hp tp q w hv).mono ?_
    rintro e w' ⟨N, rfl, _, _, hb⟩
    exact ⟨⟨_, N, rfl⟩, hb⟩

set_option maxRecDepth 100000 in
set_option maxHeartbeats 2000000 in
theorem readNumber_calls (p : ByteArray) (w : World) (hs : p.size ≤ 70000) (h0 : 0 < p.size) (hL : LibV w) :
    Calls Tryd.prog 33 #[.string p] w fun e w' => e = .returned (.tuple #[tokV (numP p).1, .int .i64 (numP p).2]) ∧ Below w.heap.size w w' := by
  have hL1 := hL.on ((Below.refl _ w).alloc (Nat.le_refl _) (.cells #[.int .i64 0, .string ⟨#[]⟩, .int .u64 0, .int .i64 0, .int .i64 0] 39))
  obtain ⟨w0, hw0⟩ : ∃ w0, w.alloc (.cells #[.int .i64 0, .string ⟨#[]⟩, .int .u64 0, .int .i64 0, .int .i64 0] 39) = w0 := ⟨_, rfl⟩
  rw [hw0] at hL1
  have hb0 : Below w.heap.size w w0 := hw0 ▸ (Below.refl _ w).alloc (Nat.le_refl _) _
  have hg0 : w0.heap[w.heap.size]? = some (.cells #[.int .i64 0, .string ⟨#[]⟩, .int .u64 0, .int .i64 0, .int .i64 0] 39 (0, 0)) := hw0 ▸ heap_alloc_new w _
  have hz0 : w.heap.size < w0.heap.size := hw0 ▸ (by simp)
  have HB0 := Lib.hid hb0
  have HG0 := Lib.hid hg0
  have HZ0 := Lib.hid hz0
  have HW0 := Lib.hid hw0
  clear hb0 hg0 hz0 hL hw0
  have hgt := Utf8W.get!_of_lt p 0 h0
  by_cases hok : ∃ u, Lib.parseUintB 64 p.data.toList = .ok u
  · obtain ⟨u, hp⟩ := hok
    have HC := Lib.hid (parse_ok p w0 hs u hp)
    by_cases hz : 1 < p.size ∧ (p.get! 0).toNat = 48
    · have e : numP p = (tok0, 22) := by unfold numP; rw [hp]; exact if_pos hz
      rw [e]
      have h48 : ((p[0].toNat : Nat) : Int) = 48 := by rw [← hgt]; exact_mod_cast hz.2
      have n48 : (((p[0].toNat : Nat) : Int) == 48) = true := by simpa using h48
      have hz1 := hz.1
      clear hp e hz hgt h48
      go_enter Tryd.func33, Tryd.ntmps33
      go_wp2_with (first | (go_at_call 45; rw [HW0.out]; refine (HC.out).mono ?_; rintro e w1 ⟨rfl, hb1⟩; refine Hid.out ?_))
      refine Lib.hid ?_
      have HB1 := Lib.hid hb1
      have HG1 := Lib.hid ((hb1.block w.heap.size HZ0.out).trans HG0.out)
      clear hb1
      go_wp2_with (refine wpList_store_tok w.heap.size _ tok0 HG1.out rfl _ _ rfl rfl rfl rfl ?_)
      try simp only [Exit.inBlock, Exit.then]
      refine bodyPost_ret (ret_tok rfl _ _ _ tok0 rfl (heap_setRow _ _ _ _ _ _ HG1.out)) rfl ?_
      exact ⟨rfl, below_setRow (HB0.out.trans (Joins.below_le HB1.out (Nat.le_of_lt HZ0.out))) (Nat.le_refl _) _⟩
    · have e : numP p = (⟨1, ⟨#[]⟩, u, 0, 0⟩, 0) := by unfold numP; rw [hp]; exact if_neg hz
      rw [e]
      by_cases hz1 : 1 < p.size
      · have h48 : ((p[0].toNat : Nat) : Int) ≠ 48 := by
          rw [← hgt]
          intro h
          exact hz ⟨hz1, by exact_mod_cast h⟩
        have n48 : (((p[0].toNat : Nat) : Int) == 48) = false := by simpa using h48
        clear hp e hz hgt h48
        go_enter Tryd.func33, Tryd.ntmps33
        go_wp2_with (first | (go_at_call 45; rw [HW0.out]; refine (HC.out).mono ?_; rintro e w1 ⟨rfl, hb1⟩; refine Hid.out ?_))
        refine Lib.hid ?_
        have HB1 := Lib.hid hb1
        have HG1 := Lib.hid ((hb1.block w.heap.size HZ0.out).trans HG0.out)
        clear hb1
        go_wp2_with (refine wpList_store_tok w.heap.size _ ⟨1, ⟨#[]⟩, u, 0, 0⟩ HG1.out rfl _ _ rfl rfl rfl rfl ?_)
        try simp only [Exit.inBlock, Exit.then]
        refine bodyPost_ret (ret_tok rfl _ _ _ ⟨1, ⟨#[]⟩, u, 0, 0⟩ rfl (heap_setRow _ _ _ _ _ _ HG1.out)) rfl ?_
        exact ⟨rfl, below_setRow (HB0.out.trans (Joins.below_le HB1.out (Nat.le_of_lt HZ0.out))) (Nat.le_refl _) _⟩
      · clear hp e hz hgt
        go_enter Tryd.func33, Tryd.ntmps33
        go_wp2_with (first | (go_at_call 45; rw [HW0.out]; refine (HC.out).mono ?_; rintro e w1 ⟨rfl, hb1⟩; refine Hid.out ?_))
        refine Lib.hid ?_
        have HB1 := Lib.hid hb1
        have HG1 := Lib.hid ((hb1.block w.heap.size HZ0.out).trans HG0.out)
        clear hb1
        go_wp2_with (refine wpList_store_tok w.heap.size _ ⟨1, ⟨#[]⟩, u, 0, 0⟩ HG1.out rfl _ _ rfl rfl rfl rfl ?_)
        try simp only [Exit.inBlock, Exit.then]
        refine bodyPost_ret (ret_tok rfl _ _ _ ⟨1, ⟨#[]⟩, u, 0, 0⟩ rfl (heap_setRow _ _ _ _ _ _ HG1.out)) rfl ?_
        exact ⟨rfl, below_setRow (HB0.out.trans (Joins.below_le HB1.out (Nat.le_of_lt HZ0.out))) (Nat.le_refl _) _⟩
  · have hno : ∀ u, Lib.parseUintB 64 p.data.toList ≠ .ok u := fun u hu => hok ⟨u, hu⟩
    have e : numP p = (tok0, 22) := by
      unfold numP
      split
      · rename_i u hu; exact absurd hu (hno u)
      · rfl
    rw [e]
    have HC := Lib.hid (parse_bad p w0 hs hL1 hno)
    clear hno e hok hgt
    go_enter Tryd.func33, Tryd.ntmps33
    go_wp2_with (first | (go_at_call 45; rw [HW0.out]; refine (HC.out).mono ?_; rintro e w1 ⟨⟨v, N, rfl⟩, hb1⟩; refine Hid.out ?_))
    refine Lib.hid ?_
    have HB1 := Lib.hid hb1
    have HG1 := Lib.hid ((hb1.block w.heap.size HZ0.out).trans HG0.out)
    clear hb1
    go_wp2_with (refine wpList_store_tok w.heap.size _ tok0 HG1.out rfl _ _ rfl rfl rfl rfl ?_)
    try simp only [Exit.inBlock, Exit.then]
    refine bodyPost_ret (ret_tok rfl _ _ _ tok0 rfl (heap_setRow _ _ _ _ _ _ HG1.out)) rfl ?_
    exact ⟨rfl, below_setRow (HB0.out.trans (Joins.below_le HB1.out (Nat.le_of_lt HZ0.out))) (Nat.le_refl _) _⟩

theorem toList_ne {a b : ByteArray} (h : a ≠ b) : (a.toList == b.toList) = false := by
  rw [beq_eq_false_iff_ne]
  intro e
  rw [Lib.toList_data, Lib.toList_data] at e
  apply h
  cases a; cases b
  congr 1
  exact Array.toList_inj.1 e
theorem sg_decode : ∀ k, k < 12 → Utf8.decode signsB (sgOff k) = (sgRune k, sgOff (k + 1) - sgOff k) := by decide
theorem sg_off : ∀ k, k < 12 → sgOff k < 15 ∧ sgOff k < sgOff (k + 1) := by decide
theorem sg_enc : ∀ k, k < 12 → Utf8.encode ((sgRune k : Nat) : Int) = sgAt k := by decide
theorem isSign_of (p : ByteArray) (k : Nat) (hk : k < 12) (h : sgAt k = p) : isSign p = true := by
  subst h
  revert k
  decide
theorem isSign_not (p : ByteArray) (h : ∀ j, j < 12 → sgAt j ≠ p) : isSign p = false := by
  have h' := fun j hj => h j hj
  unfold isSign
  rw [List.any_eq_false]
  intro l hl
  obtain ⟨j, hj, rfl⟩ := List.getElem_of_mem hl
  have hj' : j < 12 := hj
  intro he
  apply h j hj'
  rw [← of_decide_eq_true he]
  unfold sgAt
  rw [List.getD_eq_getElem?_getD, List.getElem?_eq_getElem hj]
  rfl

set_option maxRecDepth 100000 in
set_option maxHeartbeats 2000000 in
theorem readSign_calls (p : ByteArray) (w : World) :
    Calls Tryd.prog 36 #[.string p] w fun e w' => e = .returned (.tuple #[tokV (if isSign p = true then ⟨2, p, 0, 0, 0⟩ else tok0), .int .i64 (if isSign p = true then 0 else 20)]) ∧ Below w.heap.size w w' := by
  obtain ⟨R, hR⟩ : ∃ R : Tok × Int, R = (if isSign p = true then (⟨2, p, 0, 0, 0⟩, 0) else (tok0, 20)) := ⟨_, rfl⟩
  have e1 : (if isSign p = true then (⟨2, p, 0, 0, 0⟩ : Tok) else tok0) = R.1 := by rw [hR]; split <;> rfl
  have e2 : (if isSign p = true then (0 : Int) else 20) = R.2 := by rw [hR]; split <;> rfl
  rw [e1, e2]
  have HR := Lib.hid hR
  clear hR e1 e2
  have hsb : signsB.size = 15 := by decide
  have HSB := Lib.hid hsb
  clear hsb
  go_enter Tryd.func36, Tryd.ntmps36
  go_wp2
  go_loopw [] (fun wr => ∃ k : Nat, Hid (k ≤ 12) ∧ Hid (∀ j, j < k → sgAt j ≠ p) ∧ Hid (wr.heap[w.heap.size + 1]? = some (.stringIter signsB (sgOff k))) ∧ Hid (wr.heap[w.heap.size]? = some (.cells (tokC tok0) 39 (0, 0))) ∧ Hid (Below w.heap.size w wr))
    (fun wr => 15 - wr.iterPos (w.heap.size + 1))
  case atStart =>
    refine ⟨0, Lib.hid (by omega), Lib.hid (fun j hj => by omega), Lib.hid ?_, Lib.hid ?_, Lib.hid ?_⟩
    · exact heap_alloc2_new w _ _
    · exact heap_alloc2_old w _ _
    · exact ((Below.refl _ w).alloc (Nat.le_refl _) _).alloc (by simp) _
  case round =>
    obtain ⟨k, HK, HNO, HIT, HG, HB⟩ := hrel
    by_cases hk : k < 12
    · have hn := Lib.run_next_any_at (P := Tryd.prog) wr (w.heap.size + 1) signsB (sgOff k)
      have hnx : ∀ ty, (Instr.next (.pointer (some ⟨w.heap.size + 1, 0, none⟩)) true ty).run Tryd.prog wr = .ok (.tuple #[.bool true, .int .i64 (sgOff k : Nat), .int .i32 (sgRune k : Nat)]) (wr.iterAt (w.heap.size + 1) signsB (sgOff (k + 1))) := fun ty => by
        have h := hn ty HIT.out (by rw [HSB.out]; exact (sg_off k hk).1)
        rw [sg_decode k hk] at h
        rw [h]
        congr 2
        have := (sg_off k hk).2
        simp only; omega
      have hit1 := Lib.iterAt_heap wr (w.heap.size + 1) signsB (sgOff k) (sgOff (k + 1)) HIT.out
      have hg1 := (Lib.iterAt_other wr (w.heap.size + 1) w.heap.size signsB (sgOff (k + 1)) (by omega)).trans HG.out
      have hb1 := Lib.below_iterAt HB.out (k := w.heap.size + 1) (by omega) signsB (sgOff (k + 1))
      have hip : wr.iterPos (w.heap.size + 1) = sgOff k := by simp [World.iterPos, HIT.out]
      have henc := sg_enc k hk
      obtain ⟨r, hr⟩ : ∃ r : Nat, sgRune k = r := ⟨_, rfl⟩
      obtain ⟨q, hq⟩ : ∃ q, sgAt k = q := ⟨_, rfl⟩
      obtain ⟨o, ho⟩ : ∃ o : Nat, sgOff k = o := ⟨_, rfl⟩
      obtain ⟨w1, hw1⟩ : ∃ w1, wr.iterAt (w.heap.size + 1) signsB (sgOff (k + 1)) = w1 := ⟨_, rfl⟩
      rw [hr, hq] at henc
      have hcv : ∀ W, (convert 21 9 (.int .i32 (r : Int))).run Tryd.prog W = .ok (.string q) W := fun W => by
        rw [run_convert_int_string W _ _ _ _ (by rw [Tryd.underlying21]; rfl) Tryd.underlying9, henc]
      clear henc
      rw [hr, ho, hw1] at hnx
      rw [hw1] at hit1 hg1 hb1
      have HIT1 := Lib.hid hit1
      have HG1 := Lib.hid hg1
      have HB1 := Lib.hid hb1
      have HIP := Lib.hid hip
      have HQ := Lib.hid hq
      have HKK := Lib.hid hk
      clear hit1 hg1 hb1 hip hn hw1 hq hr ho hk
      by_cases hqp : q = p
      · subst hqp
        have HI := Lib.hid (isSign_of q k HKK.out HQ.out)
        have heR : R = (⟨2, q, 0, 0, 0⟩, 0) := by rw [HR.out, HI.out]; rfl
        subst heR
        go_wp2_with (refine wpList_store_tok w.heap.size _ ⟨2, q, 0, 0, 0⟩ HG1.out rfl _ _ rfl rfl rfl rfl ?_)
        try simp only [Exit.inBlock, Exit.then]
        refine bodyPost_ret (ret_tok rfl _ _ _ ⟨2, q, 0, 0, 0⟩ rfl (heap_setRow _ _ _ _ _ _ HG1.out)) rfl ?_
        exact ⟨rfl, below_setRow HB1.out (Nat.le_refl _) _⟩
      · have hqd := toList_ne hqp
        have HQP := Lib.hid hqp
        clear hqp
        go_wp2_with fail
        refine ⟨⟨k + 1, Lib.hid (by have := HKK.out; omega), Lib.hid (fun j hj => ?_), HIT1, HG1, HB1⟩, ?_⟩
        · rcases Nat.lt_or_ge j k with h | h
          · exact HNO.out j h
          · have : j = k := by omega
            subst this
            rw [HQ.out]
            exact HQP.out
        · rw [HIP.out]
          have h1 := HIT1.out
          have h2 := sg_off k HKK.out
          simp only [World.iterPos, h1]
          omega
    · have hnx : ∀ ty, (Instr.next (.pointer (some ⟨w.heap.size + 1, 0, none⟩)) true ty).run Tryd.prog wr = .ok (.tuple #[.bool false]) wr := fun ty =>
        Lib.run_next_end_at (P := Tryd.prog) wr (w.heap.size + 1) signsB (sgOff k) ty HIT.out (by
          have : k = 12 := by have := HK.out; omega
          subst this
          rw [HSB.out]; decide)
      have HI := Lib.hid (isSign_not p (fun j hj => HNO.out j (by have := HK.out; omega)))
      have heR : R = (tok0, 20) := by rw [HR.out, HI.out]; rfl
      subst heR
      clear hk
      go_wp2_with (refine wpList_store_tok w.heap.size _ tok0 HG.out rfl _ _ rfl rfl rfl rfl ?_)
      try simp only [Exit.inBlock, Exit.then]
      refine bodyPost_ret (ret_tok rfl _ _ _ tok0 rfl (heap_setRow _ _ _ _ _ _ HG.out)) rfl ?_
      exact ⟨rfl, below_setRow HB.out (Nat.le_refl _) _⟩
end Go.Proofs.YtonihjijienigaaDoor
