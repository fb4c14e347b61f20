/- Layer 2 (glyph): the document's next. -/
import Derived.Test.YtonihjijienigaaDoorGlRb
namespace Go.Proofs.YtonihjijienigaaDoor
open Go.RowKit

/-- The two tables of the runes' decoder. -/
def Utf (w : World) : Prop := Lib.Utf8Tabs 0 1 w
theorem Utf.on {w w' : World} (h : Utf w) (hb : Below w.heap.size w w') : Utf w' := Utf8Tabs_below h hb
theorem decGo (s : ByteArray) (p : Nat) (h : p < s.size) : Lib.decodeGo (s.extract p s.size) = decL (s.data.toList.drop p) := by
  have hz : s.data.toList.length = s.size := Array.length_toList
  have hx : s.extract p s.size = Bq (s.data.toList.drop p) := by
    rw [extract_Bq, List.take_of_length_le (by rw [List.length_drop, hz]; exact Nat.le_refl _)]
  rw [hx]
  unfold Lib.decodeGo
  rw [if_neg (by rw [Bq_size, List.length_drop, hz]; omega), dec_drop, Bq_data, List.drop_zero]
theorem takeWhile_till (q : UInt8 → Bool) (r : List UInt8) : ∀ k : Nat, (r.take k).all q = true → (∀ c, r[k]? = some c → q c = false) → k ≤ r.length → (r.takeWhile q).length = k := by
  induction r with
  | nil => intro k _ _ hk; simp at hk; subst hk; rfl
  | cons c r ih =>
    intro k ha hs hk
    cases k with
    | zero =>
      have := hs c rfl
      simp [List.takeWhile, this]
    | succ k =>
      simp only [List.take_succ_cons, List.all_cons, Bool.and_eq_true] at ha
      rw [List.takeWhile_cons, ha.1]
      simp only [if_true, List.length_cons]
      rw [ih k ha.2 (fun d hd => hs d (by simpa using hd)) (by simpa using hk)]

/-- What the document's next answers. -/
def nextP (l : List UInt8) (a line : Nat) : Tok × Bool × Nat × Int := match l with
  | [] => (tok0, false, 0, 0)
  | c :: r =>
    if blankB (c.toNat : Int) = true then (tok0, false, 1, 0)
    else if c.toNat = 35 then (tok0, false, 1 + (r.takeWhile nlC).length, 0)
    else if (readN (c :: r)).2 = 0 then (tokOf (c :: r) a line, true, tokLen (c :: r), 0)
    else (tok0, false, tokLen (c :: r), (readN (c :: r)).2)
theorem nextP_read (c : UInt8) (r : List UInt8) (a line : Nat) (h1 : blankB (c.toNat : Int) = false) (h2 : c.toNat ≠ 35) :
    nextP (c :: r) a line = if (readN (c :: r)).2 = 0 then (tokOf (c :: r) a line, true, tokLen (c :: r), 0) else (tok0, false, tokLen (c :: r), (readN (c :: r)).2) := by
  show (if blankB (c.toNat : Int) = true then _ else _) = _
  rw [h1, if_neg (by decide), if_neg h2]
theorem blank_begins {r : Int} (h : beginsB r = true) : blankB r = false ∧ r ≠ 35 ∧ r ≠ 10 := by
  have := beginsB_lt r h
  unfold beginsB letterB digitB at h
  simp only [Bool.or_eq_true, decide_eq_true_eq] at h
  refine ⟨decide_eq_false (by omega), by omega, by omega⟩
theorem readP_lf : readP (Bq [10]) = (⟨3, ⟨#[]⟩, 0, 0, 0⟩, 0) := rfl
theorem readP_sign {p : ByteArray} (h10 : (p.get! 0).toNat ≠ 10) (hb : beginsB ((p.get! 0).toNat : Int) = false) : readP p = (if isSign p = true then ⟨2, p, 0, 0, 0⟩ else tok0, if isSign p = true then 0 else 20) := by
  unfold beginsB at hb
  rw [Bool.or_eq_false_iff] at hb
  unfold readP
  rw [if_neg h10, hb.1, hb.2, if_neg (by decide), if_neg (by decide)]

def NextOk (N : Tok × Bool × Nat × Int) (w : World) (e : Ending) (w' : World) : Prop := e = .returned (.tuple #[tokV N.1, .bool N.2.1, .int .i64 (N.2.2.1 : Nat), .int .i64 N.2.2.2]) ∧ Below w.heap.size w w'

set_option maxRecDepth 100000 in
set_option maxHeartbeats 4000000 in
theorem next_calls (s : ByteArray) (p line : Nat) (w : World) (hs : s.size ≤ 70000) (hp : p < s.size) (hU : Utf w) :
    Calls Tryd.prog 21 #[.string s, .int .i64 (p : Int), .int .i64 (line : Int)] w (NextOk (nextP (s.data.toList.drop p) p line) w) := by
  have hz : s.data.toList.length = s.size := Array.length_toList
  have HZ := Lib.hid hz
  have hdr : s.data.toList.drop p = s[p] :: s.data.toList.drop (p + 1) := by
    rw [List.drop_eq_getElem_cons (by rw [hz]; exact hp)]
    rfl
  have HRUN := Lib.hid (fun W => run_calls s p W hs (Nat.le_of_lt hp))
  have HDEC := Lib.hid (decGo s p hp)
  obtain ⟨R, hR⟩ : ∃ R, s.data.toList.drop (p + 1) = R := ⟨_, rfl⟩
  rw [hdr, hR] at HRUN HDEC
  rw [hdr, hR]
  have hRl : R.length = s.size - (p + 1) := by rw [← hR, List.length_drop, hz]
  have hRat : ∀ k, (h : p + (1 + k) < s.size) → R[k]? = some (s[p + (1 + k)]'h) := fun k h => by
    rw [← hR, List.getElem?_drop, Nat.add_assoc, List.getElem?_eq_getElem (by rw [hz]; exact h)]
    rfl
  have hext : ∀ n, s.extract p (p + n) = Bq ((s[p] :: R).take n) := fun n => by rw [extract_Bq, Nat.add_sub_cancel_left, hdr, hR]
  have hU1 := hU.on ((Below.refl _ w).alloc (Nat.le_refl _) (.cells #[.int .i64 0, .string ⟨#[]⟩, .int .u64 0, .int .i64 0, .int .i64 0] 44))
  have HU1 := Lib.hid hU1
  have HRL := Lib.hid (⟨hRl, hRat⟩ : _ ∧ ∀ k, (h : p + (1 + k) < s.size) → R[k]? = some (s[p + (1 + k)]'h))
  have HEXT := Lib.hid hext
  obtain ⟨N, hN⟩ : ∃ N, nextP (s[p] :: R) p line = N := ⟨_, rfl⟩
  rw [hN]
  have HN := Lib.hid hN
  clear hdr hR hRl hRat hext hU hU1 hz hN HZ
  have hc8 := s[p].toNat_lt
  obtain ⟨c, hc⟩ : ∃ c, s[p] = c := ⟨_, rfl⟩
  rw [hc] at HRUN HDEC HEXT HN hc8
  by_cases hb : beginsB (c.toNat : Int) = true
  · obtain ⟨hbl, h35, h10⟩ := blank_begins hb
    have hrun : runP (c :: R) = tokLen (c :: R) := by
      rw [runP_cons, if_pos hb]
      simp only [tokLen, if_pos hb]
    have hlen := tokLen_le c R
    have hpos := tokLen_pos c R
    have hNr := HN.out
    rw [nextP_read c R p line hbl (fun e => h35 (by omega))] at hNr
    rw [hrun] at HRUN
    have hpz : (s.extract p (p + tokLen (c :: R))).size = tokLen (c :: R) := by
      rw [HEXT.out, Bq_size, List.length_take]
      omega
    have hg0 : ((s.extract p (p + tokLen (c :: R))).get! 0).toNat = c.toNat := by
      rw [HEXT.out, get!_getD, Bq_data]
      obtain ⟨m, hm⟩ : ∃ m, tokLen (c :: R) = m + 1 := ⟨tokLen (c :: R) - 1, by omega⟩
      rw [hm]
      rfl
    have hlz : tokLen (c :: R) ≤ s.size - p := by
      have := HRL.out.1
      simp only [List.length_cons] at hlen
      omega
    have HONE := Lib.hid (fun W => one_calls (s.extract p (p + tokLen (c :: R))) (p : Int) (line : Int) W (by omega) (by omega) (by rw [hg0]; exact hb))
    have hrd : readP (s.extract p (p + tokLen (c :: R))) = readN (c :: R) := by rw [HEXT.out]; rfl
    obtain ⟨n, hn⟩ : ∃ n, tokLen (c :: R) = n := ⟨_, rfl⟩
    rw [hn] at HRUN HONE hlz hpos hNr hrd hpz
    unfold oneP at HONE
    rw [hrd] at HONE
    obtain ⟨E, hE⟩ : ∃ E, (readN (c :: R)).2 = E := ⟨_, rfl⟩
    rw [hE] at HONE hNr
    have hpn : p + n ≤ s.size := by omega
    have hn0 : (0 : Int) < (n : Int) := by omega
    clear hlz hbl h35 h10 hrun hlen hg0 hrd hpz hb hn hE HDEC HEXT HN HU1 HRL
    by_cases he : E = 0
    · subst he
      rw [if_pos rfl] at HONE hNr
      have htk : ({ (readN (c :: R)).1 with at_ := (p : Int), line := (line : Int) } : Tok) = tokOf (c :: R) p line := rfl
      rw [htk] at HONE
      obtain ⟨U, hU⟩ : ∃ U, tokOf (c :: R) p line = U := ⟨_, rfl⟩
      rw [hU] at HONE hNr
      subst hNr
      clear htk hU hc
      go_enter Tryd.func21, Tryd.ntmps21
      go_wp2_with (go_at_call 37; refine (HRUN.out _).mono ?_; rintro e w' ⟨rfl, rfl⟩)
      have hA : (w.alloc (.cells #[.int .i64 0, .string ⟨#[]⟩, .int .u64 0, .int .i64 0, .int .i64 0] 44)).heap[w.heap.size]? = some (.cells #[.int .i64 0, .string ⟨#[]⟩, .int .u64 0, .int .i64 0, .int .i64 0] 44 (0, 0)) := heap_alloc_new _ _
      have hAs : w.heap.size < (w.alloc (.cells #[.int .i64 0, .string ⟨#[]⟩, .int .u64 0, .int .i64 0, .int .i64 0] 44)).heap.size := by simp
      have hAb : Below w.heap.size w (w.alloc (.cells #[.int .i64 0, .string ⟨#[]⟩, .int .u64 0, .int .i64 0, .int .i64 0] 44)) := (Below.refl _ w).alloc (Nat.le_refl _) _
      refine (HONE.out _).mono ?_
      rintro e w1 ⟨rfl, hb1⟩
      have hA1 := (hb1.block w.heap.size hAs).trans hA
      have hB1 := hAb.trans (Joins.below_le hb1 (Nat.le_of_lt hAs))
      have hs1 : w.heap.size < w1.heap.size := (Array.getElem?_eq_some_iff.1 hA1).1
      have HA1 := Lib.hid hA1
      have HB1 := Lib.hid hB1
      have HS1 := Lib.hid hs1
      clear hA hAs hAb hb1 hA1 hB1 hs1
      go_wp2_with (refine wpList_store_ref w1.heap.size _ U (heap_alloc_new _ _) rfl _ _ rfl rfl rfl rfl ?_; refine Hid.out ?_)
      refine Lib.hid ?_
      have hb3 := below_setRow ((HB1.out).alloc HB1.out.size (.cells #[.int .i64 0, .string ⟨#[]⟩, .int .u64 0, .int .i64 0, .int .i64 0] 44)) HB1.out.size (tokC U)
      have hg3 : Blk ((w1.alloc (.cells #[.int .i64 0, .string ⟨#[]⟩, .int .u64 0, .int .i64 0, .int .i64 0] 44)).setRow w1.heap.size (tokC U)) w1.heap.size 44 (tokC U) := heap_setRow _ _ _ _ _ _ (heap_alloc_new _ _)
      have hA3 := ((below_setRow ((Below.refl _ w1).alloc (Nat.le_refl _) (.cells #[.int .i64 0, .string ⟨#[]⟩, .int .u64 0, .int .i64 0, .int .i64 0] 44)) (Nat.le_refl _) (tokC U)).block w.heap.size HS1.out).trans HA1.out
      obtain ⟨g, hg⟩ : ∃ g, w1.heap.size = g := ⟨_, rfl⟩
      obtain ⟨w3, hw3⟩ : ∃ w3, (w1.alloc (.cells #[.int .i64 0, .string ⟨#[]⟩, .int .u64 0, .int .i64 0, .int .i64 0] 44)).setRow w1.heap.size (tokC U) = w3 := ⟨_, rfl⟩
      rw [hw3] at hb3 hg3 hA3 ⊢
      rw [hg] at hg3 ⊢
      have HA3 := Lib.hid hA3
      have HB3 := Lib.hid hb3
      have HG3 := Lib.hid hg3
      clear hw3 hg hb3 hg3 hA3
      have p0 : w3.cell? ⟨g, 0, none⟩ = some (.int .i64 (U).kind) := HG3.out.cell 0
      have p1 : w3.cell? ⟨g, 1, none⟩ = some (.string (U).text) := HG3.out.cell 1
      have p2 : w3.cell? ⟨g, 2, none⟩ = some (.int .u64 (U).num) := HG3.out.cell 2
      have p3 : w3.cell? ⟨g, 3, none⟩ = some (.int .i64 (U).at_) := HG3.out.cell 3
      have p4 : w3.cell? ⟨g, 4, none⟩ = some (.int .i64 (U).line) := HG3.out.cell 4
      go_wp2_with (refine wpList_store_ref w.heap.size _ U HA3.out rfl _ _ rfl rfl rfl rfl ?_)
      try simp only [Exit.inBlock, Exit.then]
      refine bodyPost_ret (ret_ref3 rfl _ _ _ U rfl (heap_setRow _ _ _ _ _ _ HA3.out)) rfl ?_
      exact ⟨rfl, below_setRow HB3.out (Nat.le_refl _) _⟩
    · have heb : (E == 0) = false := beq_eq_false_iff_ne.2 he
      rw [if_neg he] at HONE hNr
      subst hNr
      clear he hc
      go_enter Tryd.func21, Tryd.ntmps21
      go_wp2_with (go_at_call 37; refine (HRUN.out _).mono ?_; rintro e w' ⟨rfl, rfl⟩)
      have hA : (w.alloc (.cells #[.int .i64 0, .string ⟨#[]⟩, .int .u64 0, .int .i64 0, .int .i64 0] 44)).heap[w.heap.size]? = some (.cells #[.int .i64 0, .string ⟨#[]⟩, .int .u64 0, .int .i64 0, .int .i64 0] 44 (0, 0)) := heap_alloc_new _ _
      have hAs : w.heap.size < (w.alloc (.cells #[.int .i64 0, .string ⟨#[]⟩, .int .u64 0, .int .i64 0, .int .i64 0] 44)).heap.size := by simp
      have hAb : Below w.heap.size w (w.alloc (.cells #[.int .i64 0, .string ⟨#[]⟩, .int .u64 0, .int .i64 0, .int .i64 0] 44)) := (Below.refl _ w).alloc (Nat.le_refl _) _
      refine (HONE.out _).mono ?_
      rintro e w1 ⟨rfl, hb1⟩
      have hA1 := (hb1.block w.heap.size hAs).trans hA
      have hB1 := hAb.trans (Joins.below_le hb1 (Nat.le_of_lt hAs))
      have hs1 : w.heap.size < w1.heap.size := (Array.getElem?_eq_some_iff.1 hA1).1
      have HA1 := Lib.hid hA1
      have HB1 := Lib.hid hB1
      have HS1 := Lib.hid hs1
      clear hA hAs hAb hb1 hA1 hB1 hs1
      go_wp2_with (refine wpList_store_ref w1.heap.size _ tok0 (heap_alloc_new _ _) rfl _ _ rfl rfl rfl rfl ?_; refine Hid.out ?_)
      refine Lib.hid ?_
      have hb3 := below_setRow ((HB1.out).alloc HB1.out.size (.cells #[.int .i64 0, .string ⟨#[]⟩, .int .u64 0, .int .i64 0, .int .i64 0] 44)) HB1.out.size (tokC tok0)
      have hg3 : Blk ((w1.alloc (.cells #[.int .i64 0, .string ⟨#[]⟩, .int .u64 0, .int .i64 0, .int .i64 0] 44)).setRow w1.heap.size (tokC tok0)) w1.heap.size 44 (tokC tok0) := heap_setRow _ _ _ _ _ _ (heap_alloc_new _ _)
      have hA3 := ((below_setRow ((Below.refl _ w1).alloc (Nat.le_refl _) (.cells #[.int .i64 0, .string ⟨#[]⟩, .int .u64 0, .int .i64 0, .int .i64 0] 44)) (Nat.le_refl _) (tokC tok0)).block w.heap.size HS1.out).trans HA1.out
      obtain ⟨g, hg⟩ : ∃ g, w1.heap.size = g := ⟨_, rfl⟩
      obtain ⟨w3, hw3⟩ : ∃ w3, (w1.alloc (.cells #[.int .i64 0, .string ⟨#[]⟩, .int .u64 0, .int .i64 0, .int .i64 0] 44)).setRow w1.heap.size (tokC tok0) = w3 := ⟨_, rfl⟩
      rw [hw3] at hb3 hg3 hA3 ⊢
      rw [hg] at hg3 ⊢
      have HA3 := Lib.hid hA3
      have HB3 := Lib.hid hb3
      have HG3 := Lib.hid hg3
      clear hw3 hg hb3 hg3 hA3
      have p0 : w3.cell? ⟨g, 0, none⟩ = some (.int .i64 (tok0).kind) := HG3.out.cell 0
      have p1 : w3.cell? ⟨g, 1, none⟩ = some (.string (tok0).text) := HG3.out.cell 1
      have p2 : w3.cell? ⟨g, 2, none⟩ = some (.int .u64 (tok0).num) := HG3.out.cell 2
      have p3 : w3.cell? ⟨g, 3, none⟩ = some (.int .i64 (tok0).at_) := HG3.out.cell 3
      have p4 : w3.cell? ⟨g, 4, none⟩ = some (.int .i64 (tok0).line) := HG3.out.cell 4
      go_wp2_with (refine wpList_store_ref w.heap.size _ tok0 HA3.out rfl _ _ rfl rfl rfl rfl ?_)
      try simp only [Exit.inBlock, Exit.then]
      refine bodyPost_ret (ret_ref3 rfl _ _ _ tok0 rfl (heap_setRow _ _ _ _ _ _ HA3.out)) rfl ?_
      exact ⟨rfl, below_setRow HB3.out (Nat.le_refl _) _⟩
  · have hb := Bool.eq_false_iff.2 hb
    have hrun : runP (c :: R) = 0 := by rw [runP_cons, hb]; rfl
    rw [hrun] at HRUN
    have hct : ((s[p].toNat : Nat) : Int) = (c.toNat : Int) := by rw [hc]
    clear hrun
    by_cases h10 : c.toNat = 10
    · have hNr := HN.out
      have hc10 : c = 10 := UInt8.toNat_inj.1 h10
      subst hc10
      rw [nextP_read _ R p line (by decide) (by decide)] at hNr
      have htl : tokLen (10 :: R) = 1 := by
        simp only [tokLen]
        rw [if_neg (by decide), decL_ascii 10 R (by decide)]
      have hrn : readN (10 :: R) = (⟨3, ⟨#[]⟩, 0, 0, 0⟩, 0) := by
        unfold readN
        rw [htl]
        exact readP_lf
      have hN2 : N = (⟨3, ⟨#[]⟩, 0, (p : Int), (line : Int)⟩, true, 1, 0) := by
        rw [← hNr, htl, hrn, if_pos rfl]
        unfold tokOf
        rw [hrn]
      subst hN2
      have n10 : (((s[p].toNat : Nat) : Int) == 10) = true := by rw [hc]; rfl
      clear hNr htl hrn h10 hct hc hb
      go_enter Tryd.func21, Tryd.ntmps21
      go_wp2_with (first | (go_at_call 37; refine (HRUN.out _).mono ?_; rintro e w' ⟨rfl, rfl⟩) | (refine wpList_store_ref w.heap.size _ ⟨3, ⟨#[]⟩, 0, (p : Int), (line : Int)⟩ (heap_alloc_new _ _) rfl _ _ rfl rfl rfl rfl ?_))
      try simp only [Exit.inBlock, Exit.then]
      refine bodyPost_ret (ret_ref3 rfl _ _ _ ⟨3, ⟨#[]⟩, 0, (p : Int), (line : Int)⟩ rfl (heap_setRow _ _ _ _ _ _ (heap_alloc_new _ _))) rfl ?_
      exact ⟨rfl, below_setRow ((Below.refl _ _).alloc (Nat.le_refl _) _) (Nat.le_refl _) _⟩
    · have n10 : (((s[p].toNat : Nat) : Int) == 10) = false := beq_eq_false_iff_ne.2 (by omega)
      by_cases hbl : blankB (c.toNat : Int) = true
      · have hN2 : N = (tok0, false, 1, 0) := by
          rw [← HN.out]
          show (if blankB (c.toNat : Int) = true then _ else _) = _
          rw [if_pos hbl]
        subst hN2
        have hor := of_decide_eq_true hbl
        obtain ⟨b32, hb32⟩ : ∃ b, (((s[p].toNat : Nat) : Int) == 32) = b := ⟨_, rfl⟩
        obtain ⟨b9, hb9⟩ : ∃ b, (((s[p].toNat : Nat) : Int) == 9) = b := ⟨_, rfl⟩
        obtain ⟨b13, hb13⟩ : ∃ b, (((s[p].toNat : Nat) : Int) == 13) = b := ⟨_, rfl⟩
        have hany : b32 = true ∨ b9 = true ∨ b13 = true := by
          rw [← hb32, ← hb9, ← hb13, hct]
          rcases hor with h | h | h
          · exact Or.inl (beq_iff_eq.2 h)
          · exact Or.inr (Or.inl (beq_iff_eq.2 h))
          · exact Or.inr (Or.inr (beq_iff_eq.2 h))
        clear hbl hor hct hc hb h10
        cases b32
        · cases b9
          · obtain rfl : b13 = true := by simpa using hany
            clear hany
            go_enter Tryd.func21, Tryd.ntmps21
            go_wp2_with (first | (go_at_call 37; refine (HRUN.out _).mono ?_; rintro e w' ⟨rfl, rfl⟩) | (refine wpList_store_ref w.heap.size _ tok0 (heap_alloc_new _ _) rfl _ _ rfl rfl rfl rfl ?_))
            try simp only [Exit.inBlock, Exit.then]
            refine bodyPost_ret (ret_ref3 rfl _ _ _ tok0 rfl (heap_setRow _ _ _ _ _ _ (heap_alloc_new _ _))) rfl ?_
            exact ⟨rfl, below_setRow ((Below.refl _ _).alloc (Nat.le_refl _) _) (Nat.le_refl _) _⟩
          · clear hany
            go_enter Tryd.func21, Tryd.ntmps21
            go_wp2_with (first | (go_at_call 37; refine (HRUN.out _).mono ?_; rintro e w' ⟨rfl, rfl⟩) | (refine wpList_store_ref w.heap.size _ tok0 (heap_alloc_new _ _) rfl _ _ rfl rfl rfl rfl ?_))
            try simp only [Exit.inBlock, Exit.then]
            refine bodyPost_ret (ret_ref3 rfl _ _ _ tok0 rfl (heap_setRow _ _ _ _ _ _ (heap_alloc_new _ _))) rfl ?_
            exact ⟨rfl, below_setRow ((Below.refl _ _).alloc (Nat.le_refl _) _) (Nat.le_refl _) _⟩
        · clear hany
          go_enter Tryd.func21, Tryd.ntmps21
          go_wp2_with (first | (go_at_call 37; refine (HRUN.out _).mono ?_; rintro e w' ⟨rfl, rfl⟩) | (refine wpList_store_ref w.heap.size _ tok0 (heap_alloc_new _ _) rfl _ _ rfl rfl rfl rfl ?_))
          try simp only [Exit.inBlock, Exit.then]
          refine bodyPost_ret (ret_ref3 rfl _ _ _ tok0 rfl (heap_setRow _ _ _ _ _ _ (heap_alloc_new _ _))) rfl ?_
          exact ⟨rfl, below_setRow ((Below.refl _ _).alloc (Nat.le_refl _) _) (Nat.le_refl _) _⟩
      · have hbl := Bool.eq_false_iff.2 hbl
        have hnb : c.toNat ≠ 32 ∧ c.toNat ≠ 9 ∧ c.toNat ≠ 13 := by
          have := of_decide_eq_false hbl
          omega
        have n32 : (((s[p].toNat : Nat) : Int) == 32) = false := beq_eq_false_iff_ne.2 (by omega)
        have n9 : (((s[p].toNat : Nat) : Int) == 9) = false := beq_eq_false_iff_ne.2 (by omega)
        have n13 : (((s[p].toNat : Nat) : Int) == 13) = false := beq_eq_false_iff_ne.2 (by omega)
        clear hnb
        by_cases h35 : c.toNat = 35
        · have hN2 : N = (tok0, false, 1 + (R.takeWhile nlC).length, 0) := by
            rw [← HN.out]
            show (if blankB (c.toNat : Int) = true then _ else _) = _
            rw [hbl, if_neg (by decide), if_pos h35]
          subst hN2
          have n35 : (((s[p].toNat : Nat) : Int) == 35) = true := beq_iff_eq.2 (by omega)
          clear hbl hct hc hb h10 h35 HDEC HEXT HN
          go_enter Tryd.func21, Tryd.ntmps21
          go_wp2_with (go_at_call 37; refine (HRUN.out _).mono ?_; rintro e w' ⟨rfl, rfl⟩)
          go_loop [14] (fun v => ∃ k : Nat, p + (1 + k) ≤ s.size ∧ v = .int .i64 (1 + (k : Int)) ∧ (R.take k).all nlC = true) (fun v => s.size - (intOf v).toNat)
          case atStart => exact ⟨0, by omega, rfl, rfl⟩
          case round =>
            obtain ⟨k, hk, rfl, hall⟩ := hrel
            have HA := Lib.hid hall
            clear hall
            by_cases hlt : p + (1 + k) < s.size
            · have hrk := HRL.out.2 k hlt
              have HRK := Lib.hid hrk
              have hcl : k < R.length := by have := HRL.out.1; omega
              have stop : nlC s[p + (1 + k)] = false → 1 + (R.takeWhile nlC).length = 1 + k := fun hg => by
                rw [takeWhile_till nlC R k HA.out (fun d hd => by rw [HRK.out] at hd; cases hd; exact hg) (by omega)]
              have go : nlC s[p + (1 + k)] = true → (R.take (k + 1)).all nlC = true := fun hg => by
                obtain ⟨hl, he⟩ := List.getElem?_eq_some_iff.1 HRK.out
                rw [List.take_succ_eq_append_getElem hl, List.all_append, HA.out, he]
                simp [hg]
              have HS := Lib.hid stop
              have HGO := Lib.hid go
              clear stop go hrk hcl
              by_cases h46 : ((s[p + (1 + k)].toNat : Nat) : Int) = 10
              · have hg : nlC s[p + (1 + k)] = false := decide_eq_false (by omega)
                have n46 : (((s[p + (1 + k)].toNat : Nat) : Int) == 10) = true := by simpa using h46
                have HGG := Lib.hid hg
                clear hg h46
                go_wp2_with (refine wpList_store_ref w.heap.size _ tok0 (heap_alloc_new _ _) rfl _ _ rfl rfl rfl rfl ?_)
                try simp only [Exit.inBlock, Exit.then]
                refine bodyPost_ret (ret_ref3 rfl _ _ _ tok0 rfl (heap_setRow _ _ _ _ _ _ (heap_alloc_new _ _))) rfl ?_
                rw [HS.out HGG.out]
                exact ⟨by go_num, below_setRow ((Below.refl _ _).alloc (Nat.le_refl _) _) (Nat.le_refl _) _⟩
              · have hg : nlC s[p + (1 + k)] = true := decide_eq_true (by omega)
                have n46 : (((s[p + (1 + k)].toNat : Nat) : Int) == 10) = false := by simpa using h46
                have HGG := Lib.hid hg
                clear hg h46
                go_wp2_with fail
                go_round
                case rel => exact ⟨k + 1, by omega, by go_num, HGO.out HGG.out⟩
                case measure => simp [intOf]; omega
            · have hkk : k = R.length := by have := HRL.out.1; omega
              have hst := takeWhile_till nlC R k HA.out (fun d hd => by rw [List.getElem?_eq_none (by omega)] at hd; cases hd) (by omega)
              have HST := Lib.hid hst
              clear hst hkk
              go_wp2_with (refine wpList_store_ref w.heap.size _ tok0 (heap_alloc_new _ _) rfl _ _ rfl rfl rfl rfl ?_)
              try simp only [Exit.inBlock, Exit.then]
              refine bodyPost_ret (ret_ref3 rfl _ _ _ tok0 rfl (heap_setRow _ _ _ _ _ _ (heap_alloc_new _ _))) rfl ?_
              rw [HST.out]
              exact ⟨by go_num, below_setRow ((Below.refl _ _).alloc (Nat.le_refl _) _) (Nat.le_refl _) _⟩
        · have hNr := HN.out
          rw [nextP_read c R p line hbl h35] at hNr
          have n35 : (((s[p].toNat : Nat) : Int) == 35) = false := beq_eq_false_iff_ne.2 (by omega)
          have htl : tokLen (c :: R) = (decL (c :: R)).2 := by
            simp only [tokLen]
            rw [if_neg (by rw [hb]; decide)]
          have hlen := tokLen_le c R
          have hpos := tokLen_pos c R
          have hlz : p + tokLen (c :: R) ≤ s.size := by
            have := HRL.out.1
            simp only [List.length_cons] at hlen
            omega
          have hg0 : ((s.extract p (p + tokLen (c :: R))).get! 0).toNat = c.toNat := by
            rw [HEXT.out, get!_getD, Bq_data]
            obtain ⟨m, hm⟩ : ∃ m, tokLen (c :: R) = m + 1 := ⟨tokLen (c :: R) - 1, by omega⟩
            rw [hm]
            rfl
          have hrn : readN (c :: R) = (if isSign (s.extract p (p + tokLen (c :: R))) = true then ⟨2, s.extract p (p + tokLen (c :: R)), 0, 0, 0⟩ else tok0, if isSign (s.extract p (p + tokLen (c :: R))) = true then 0 else 20) := by
            have h1 : readN (c :: R) = readP (s.extract p (p + tokLen (c :: R))) := by rw [HEXT.out]; rfl
            rw [h1, readP_sign (by rw [hg0]; exact h10) (by rw [hg0]; exact hb)]
          have hdc := Tryd.utf8_DecodeRuneInString (s.extract p s.size) _ HU1.out
          rw [HDEC.out, ← htl] at hdc
          obtain ⟨r, hr⟩ : ∃ r, (decL (c :: R)).1 = r := ⟨_, rfl⟩
          rw [hr] at hdc
          obtain ⟨n, hn⟩ : ∃ n, tokLen (c :: R) = n := ⟨_, rfl⟩
          have hto : tokOf (c :: R) p line = { (readN (c :: R)).1 with at_ := (p : Int), line := (line : Int) } := rfl
          rw [hn] at hdc hNr hrn hlz hpos
          rw [hto, hrn] at hNr
          obtain ⟨q, hq⟩ : ∃ q, s.extract p (p + n) = q := ⟨_, rfl⟩
          rw [hq] at hNr
          have HSG := Lib.hid (fun W => refSign_calls q W)
          have HDC := Lib.hid hdc
          have HQ := Lib.hid hq
          have hpp : (p : Int) ≤ s.size := by omega
          have hAs : w.heap.size < (w.alloc (.cells #[.int .i64 0, .string ⟨#[]⟩, .int .u64 0, .int .i64 0, .int .i64 0] 44)).heap.size := by simp
          have hAb : Below w.heap.size w (w.alloc (.cells #[.int .i64 0, .string ⟨#[]⟩, .int .u64 0, .int .i64 0, .int .i64 0] 44)) := (Below.refl _ w).alloc (Nat.le_refl _) _
          have HAS := Lib.hid hAs
          have HAB := Lib.hid hAb
          clear hdc hq hn hr hto hrn hg0 hlen htl hct hc hb h10 h35 hbl HDEC HEXT HN HRL HU1 hAs hAb
          cases hsg : isSign q
          · rw [hsg] at hNr HSG
            have hN2 : N = (tok0, false, n, 20) := hNr.symm
            subst hN2
            clear hNr hsg
            go_enter Tryd.func21, Tryd.ntmps21
            go_wp2_with (go_at_call 37; refine (HRUN.out _).mono ?_; rintro e w' ⟨rfl, rfl⟩)
            refine HDC.out.mono ?_
            rintro e w1 ⟨rfl, hb1⟩
            have hA1 := (hb1.block w.heap.size HAS.out).trans (heap_alloc_new w _)
            have HA1 := Lib.hid hA1
            have HB1 := Lib.hid (HAB.out.trans (Joins.below_le hb1 (Nat.le_of_lt HAS.out)))
            clear hb1 hA1
            go_wp2_with fail
            rw [HQ.out]
            refine (HSG.out _).mono ?_
            rintro e w' ⟨rfl, rfl⟩
            go_wp2_with (refine wpList_store_ref w.heap.size _ tok0 HA1.out rfl _ _ rfl rfl rfl rfl ?_)
            try simp only [Exit.inBlock, Exit.then]
            refine bodyPost_ret (ret_ref3 rfl _ _ _ tok0 rfl (heap_setRow _ _ _ _ _ _ HA1.out)) rfl ?_
            exact ⟨rfl, below_setRow HB1.out (Nat.le_refl _) _⟩
          · rw [hsg] at hNr HSG
            have hN2 : N = (⟨2, q, 0, (p : Int), (line : Int)⟩, true, n, 0) := hNr.symm
            subst hN2
            clear hNr hsg
            go_enter Tryd.func21, Tryd.ntmps21
            go_wp2_with (go_at_call 37; refine (HRUN.out _).mono ?_; rintro e w' ⟨rfl, rfl⟩)
            refine HDC.out.mono ?_
            rintro e w1 ⟨rfl, hb1⟩
            have hA1 := (hb1.block w.heap.size HAS.out).trans (heap_alloc_new w _)
            have HA1 := Lib.hid hA1
            have HB1 := Lib.hid (HAB.out.trans (Joins.below_le hb1 (Nat.le_of_lt HAS.out)))
            clear hb1 hA1
            go_wp2_with fail
            rw [HQ.out]
            refine (HSG.out _).mono ?_
            rintro e w' ⟨rfl, rfl⟩
            go_wp2_with (refine wpList_store_ref w.heap.size _ ⟨2, q, 0, (p : Int), (line : Int)⟩ HA1.out rfl _ _ rfl rfl rfl (by rw [← HQ.out]; rfl) ?_)
            try simp only [Exit.inBlock, Exit.then]
            refine bodyPost_ret (ret_ref3 rfl _ _ _ ⟨2, q, 0, (p : Int), (line : Int)⟩ rfl (heap_setRow _ _ _ _ _ _ HA1.out)) rfl ?_
            exact ⟨rfl, below_setRow HB1.out (Nat.le_refl _) _⟩
end Go.Proofs.YtonihjijienigaaDoor
