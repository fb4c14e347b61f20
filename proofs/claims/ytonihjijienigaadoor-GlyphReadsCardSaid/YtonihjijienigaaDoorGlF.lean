/- Layer 2 (glyph): read. -/
import Derived.Test.YtonihjijienigaaDoorGlE
import Derived.Test.YtonihjijienigaaDoorGlA
namespace Go.Proofs.YtonihjijienigaaDoor
open Go.RowKit

/-- What a piece is read as: its token, but where it stands; the error's number. -/
def readP (p : ByteArray) : Tok × Int :=
  if (p.get! 0).toNat = 10 then (⟨3, ⟨#[]⟩, 0, 0, 0⟩, 0)
  else if digitB ((p.get! 0).toNat : Int) = true then numP p
  else if letterB ((p.get! 0).toNat : Int) = true then (if 24 < p.size then tok0 else ⟨0, p, 0, 0, 0⟩, if 24 < p.size then 21 else 0)
  else (if isSign p = true then ⟨2, p, 0, 0, 0⟩ else tok0, if isSign p = true then 0 else 20)

set_option maxRecDepth 100000 in
set_option maxHeartbeats 2000000 in
theorem read_calls (p : ByteArray) (w : World) (hs : p.size ≤ 70000) (h0 : 0 < p.size) (hL : LibV w) :
    Calls Tryd.prog 20 #[.string p] w fun e w' => e = .returned (.tuple #[tokV (readP p).1, .int .i64 (readP p).2]) ∧ Below w.heap.size w w' := by
  have hL1 := hL.on ((Below.refl _ w).alloc (Nat.le_refl _) (.cells #[.int .i64 0, .string ⟨#[]⟩, .int .u64 0, .int .i64 0, .int .i64 0] 39))
  obtain ⟨w0, hw0⟩ : ∃ w0, w.alloc (.cells #[.int .i64 0, .string ⟨#[]⟩, .int .u64 0, .int .i64 0, .int .i64 0] 39) = w0 := ⟨_, rfl⟩
  rw [hw0] at hL1
  have HB0 := Lib.hid (show Below w.heap.size w w0 from hw0 ▸ (Below.refl _ w).alloc (Nat.le_refl _) _)
  have HG0 := Lib.hid (show w0.heap[w.heap.size]? = some (.cells #[.int .i64 0, .string ⟨#[]⟩, .int .u64 0, .int .i64 0, .int .i64 0] 39 (0, 0)) from hw0 ▸ heap_alloc_new w _)
  have HZ0 := Lib.hid (show w.heap.size < w0.heap.size from hw0 ▸ (by simp))
  have HW0 := Lib.hid hw0
  clear hL hw0
  have hgt := Utf8W.get!_of_lt p 0 h0
  have HN := Lib.hid (readNumber_calls p w0 hs h0 hL1)
  have HWD := Lib.hid (readWord_calls p w0 hs)
  have HSG := Lib.hid (readSign_calls p w0)
  have HIL := Lib.hid (isLetter_calls ((p[0].toNat : Nat) : Int) w0)
  have HID := Lib.hid (isDigit_calls ((p[0].toNat : Nat) : Int) w0)
  clear hL1
  have hwr : wrap32 ((p[0].toNat : Nat) : Int) = ((p[0].toNat : Nat) : Int) := by
    have := p[0].toNat_lt
    unfold wrap32
    omega
  by_cases h10 : (p.get! 0).toNat = 10
  · have e : readP p = (⟨3, ⟨#[]⟩, 0, 0, 0⟩, 0) := by unfold readP; rw [if_pos h10]
    rw [e]
    have n10 : (((p[0].toNat : Nat) : Int) == 10) = true := by rw [← hgt, h10]; rfl
    clear e h10 hgt
    go_enter Tryd.func20, Tryd.ntmps20
    go_wp2_with fail
    try simp only [Exit.inBlock, Exit.then]
    refine bodyPost_ret (ret_tok rfl _ _ _ ⟨3, ⟨#[]⟩, 0, 0, 0⟩ rfl (heap_alloc_new _ _)) rfl ?_
    exact ⟨rfl, (Below.refl _ _).alloc (Nat.le_refl _) _⟩
  · have n10 : (((p[0].toNat : Nat) : Int) == 10) = false := by rw [← hgt]; simpa using (fun h : (((p.get! 0).toNat : Nat) : Int) = 10 => h10 (by exact_mod_cast h))
    have e : readP p = (if digitB ((p.get! 0).toNat : Int) = true then numP p
      else if letterB ((p.get! 0).toNat : Int) = true then (if 24 < p.size then tok0 else ⟨0, p, 0, 0, 0⟩, if 24 < p.size then 21 else 0)
      else (if isSign p = true then ⟨2, p, 0, 0, 0⟩ else tok0, if isSign p = true then 0 else 20)) := by unfold readP; rw [if_neg h10]
    rw [e]
    clear e h10
    rw [hgt]
    clear hgt
    cases hd : digitB (((p[0].toNat : Nat) : Int))
    · rw [hd] at HID
      cases hl : letterB (((p[0].toNat : Nat) : Int))
      · rw [hl] at HIL
        rw [if_neg (by decide), if_neg (by decide)]
        obtain ⟨R, hR⟩ : ∃ R, (if isSign p = true then (⟨2, p, 0, 0, 0⟩ : Tok) else tok0) = R := ⟨_, rfl⟩
        obtain ⟨E, hE⟩ : ∃ E : Int, (if isSign p = true then 0 else 20) = E := ⟨_, rfl⟩
        rw [hR, hE] at HSG
        rw [hR, hE]
        clear hd hl hR hE
        go_enter Tryd.func20, Tryd.ntmps20
        go_wp2_with (first | (go_at_call 32; rw [HW0.out]; refine (HID.out).mono ?_; rintro e w' ⟨rfl, rfl⟩) | (go_at_call 34; refine (HIL.out).mono ?_; rintro e w' ⟨rfl, rfl⟩) | (go_at_call 36; refine (HSG.out).mono ?_; rintro e w1 ⟨rfl, hb1⟩; refine Hid.out ?_))
        refine Lib.hid ?_
        have HB1 := Lib.hid hb1
        have HG1 := Lib.hid ((hb1.block w.heap.size HZ0.out).trans HG0.out)
        clear hb1
        go_wp2_with (refine wpList_store_tok w.heap.size _ R HG1.out rfl _ _ rfl rfl rfl rfl ?_)
        try simp only [Exit.inBlock, Exit.then]
        refine bodyPost_ret (ret_tok rfl _ _ _ R rfl (heap_setRow _ _ _ _ _ _ HG1.out)) rfl ?_
        exact ⟨rfl, below_setRow (HB0.out.trans (Joins.below_le HB1.out (Nat.le_of_lt HZ0.out))) (Nat.le_refl _) _⟩
      · rw [hl] at HIL
        rw [if_neg (by decide), if_pos rfl]
        obtain ⟨R, hR⟩ : ∃ R, (if 24 < p.size then tok0 else (⟨0, p, 0, 0, 0⟩ : Tok)) = R := ⟨_, rfl⟩
        obtain ⟨E, hE⟩ : ∃ E : Int, (if 24 < p.size then 21 else 0) = E := ⟨_, rfl⟩
        rw [hR, hE] at HWD
        rw [hR, hE]
        clear hd hl hR hE
        go_enter Tryd.func20, Tryd.ntmps20
        go_wp2_with (first | (go_at_call 32; rw [HW0.out]; refine (HID.out).mono ?_; rintro e w' ⟨rfl, rfl⟩) | (go_at_call 34; refine (HIL.out).mono ?_; rintro e w' ⟨rfl, rfl⟩) | (go_at_call 35; refine (HWD.out).mono ?_; rintro e w1 ⟨rfl, hb1⟩; refine Hid.out ?_))
        refine Lib.hid ?_
        have HB1 := Lib.hid hb1
        have HG1 := Lib.hid ((hb1.block w.heap.size HZ0.out).trans HG0.out)
        clear hb1
        go_wp2_with (refine wpList_store_tok w.heap.size _ R HG1.out rfl _ _ rfl rfl rfl rfl ?_)
        try simp only [Exit.inBlock, Exit.then]
        refine bodyPost_ret (ret_tok rfl _ _ _ R rfl (heap_setRow _ _ _ _ _ _ HG1.out)) rfl ?_
        exact ⟨rfl, below_setRow (HB0.out.trans (Joins.below_le HB1.out (Nat.le_of_lt HZ0.out))) (Nat.le_refl _) _⟩
    · rw [hd] at HID
      rw [if_pos rfl]
      obtain ⟨R, hR⟩ : ∃ R, numP p = R := ⟨_, rfl⟩
      rw [hR] at HN
      rw [hR]
      clear hd hR
      go_enter Tryd.func20, Tryd.ntmps20
      go_wp2_with (first | (go_at_call 32; rw [HW0.out]; refine (HID.out).mono ?_; rintro e w' ⟨rfl, rfl⟩) | (go_at_call 34; refine (HIL.out).mono ?_; rintro e w' ⟨rfl, rfl⟩) | (go_at_call 33; refine (HN.out).mono ?_; rintro e w1 ⟨rfl, hb1⟩; refine Hid.out ?_))
      refine Lib.hid ?_
      have HB1 := Lib.hid hb1
      have HG1 := Lib.hid ((hb1.block w.heap.size HZ0.out).trans HG0.out)
      clear hb1
      go_wp2_with (refine wpList_store_tok w.heap.size _ R.1 HG1.out rfl _ _ rfl rfl rfl rfl ?_)
      try simp only [Exit.inBlock, Exit.then]
      refine bodyPost_ret (ret_tok rfl _ _ _ R.1 rfl (heap_setRow _ _ _ _ _ _ HG1.out)) rfl ?_
      exact ⟨rfl, below_setRow (HB0.out.trans (Joins.below_le HB1.out (Nat.le_of_lt HZ0.out))) (Nat.le_refl _) _⟩

end Go.Proofs.YtonihjijienigaaDoor
