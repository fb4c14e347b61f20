/- Layer 1 (cell): the law's own 'events': a loop that copies up to so many steps. -/
import Derived.Test.YtkinnhdagdkhcaaCellF
namespace Go.Proofs.Ytkinnhdagdkhcaa
open Go.RowKit

theorem ev_cells {W : World} {h m c : Nat} {E : List EvD} (ho : W.ownsRow 0 57 10 (.slice (some ⟨h, 0, none⟩) m c) m (flatE E)) {k : Nat} (hk : k < m) (hl : E.length = m) :
    ∃ e : EvD, E[k]? = some e ∧ W.cell? ⟨h, k * 10, none⟩ = some (.int .i64 e.who) ∧ W.cell? ⟨h, k * 10 + 1, none⟩ = some (.int .i64 e.k) ∧ W.cell? ⟨h, k * 10 + 2, none⟩ = some (.int .i64 e.i) ∧
      W.cell? ⟨h, k * 10 + 3, none⟩ = some (.int .u64 e.o.1) ∧ W.cell? ⟨h, k * 10 + 4, none⟩ = some (.int .u64 e.o.2) ∧ W.cell? ⟨h, k * 10 + 5, none⟩ = some (.int .u64 e.n.1) ∧ W.cell? ⟨h, k * 10 + 6, none⟩ = some (.int .u64 e.n.2) ∧
      W.cell? ⟨h, k * 10 + 7, none⟩ = some (.int .u64 e.p.1) ∧ W.cell? ⟨h, k * 10 + 8, none⟩ = some (.int .u64 e.p.2) ∧ W.cell? ⟨h, k * 10 + 9, none⟩ = some (.bool e.ok) := by
  have he : E[k]? = some (E[k]'(by omega)) := List.getElem?_eq_getElem (by omega)
  have hc : ∀ t, t < 10 → W.cell? ⟨h, k * 10 + t, none⟩ = (E[k]'(by omega)).L[t]? := fun t ht => by
    rw [ho.cellAt _ (by omega), flatE_cell E k _ he t ht]
  exact ⟨_, he, hc 0 (by omega), hc 1 (by omega), hc 2 (by omega), hc 3 (by omega), hc 4 (by omega), hc 5 (by omega), hc 6 (by omega), hc 7 (by omega), hc 8 (by omega), hc 9 (by omega)⟩

/-- What holds at the loop's head. -/
def EvRel (w : World) (h m c : Nat) (E : List EvD) (most : Int) (v i : Value) (wr : World) : Prop :=
  ∃ k : Nat, k ≤ m ∧ (k : Int) < most ∧ i = .int .i64 k ∧ wr.ownsRow 0 57 10 v k (flatE (E.take k)) ∧ (∀ x, v.ownBlock = some x → w.heap.size ≤ x ∧ x ≠ h) ∧
    wr.ownsRow 0 57 10 (.slice (some ⟨h, 0, none⟩) m c) m (flatE E) ∧ w.heap.size ≤ h ∧ Kept (fun _ => False) w wr

theorem ev_step {w wr W w1 : World} {h m c k : Nat} {E : List EvD} {v v1 : Value} {e : EvD} (hv : ∀ x, v.ownBlock = some x → w.heap.size ≤ x ∧ x ≠ h)
    (hs : wr.ownsRow 0 57 10 (.slice (some ⟨h, 0, none⟩) m c) m (flatE E)) (hK : Kept (fun _ => False) w wr) (h1 : Kept (fun _ => False) wr W) (he : E[k]? = some e)
    (hown : w1.ownsRow 0 57 10 v1 (k + 1) (flatE (E.take k) ++ e.L)) (hg : W.grownBy w1 v.ownBlock) (hat : v1.ownBlock = v.ownBlock ∨ v1.ownBlock = some W.heap.size) (hl : h < wr.heap.size) :
    w1.ownsRow 0 57 10 v1 (k + 1) (flatE (E.take (k + 1))) ∧ (∀ x, v1.ownBlock = some x → w.heap.size ≤ x ∧ x ≠ h) ∧ w1.ownsRow 0 57 10 (.slice (some ⟨h, 0, none⟩) m c) m (flatE E) ∧ Kept (fun _ => False) w w1 := by
  obtain ⟨hk, rfl⟩ := List.getElem?_eq_some_iff.1 he
  refine ⟨by rw [take_snocE E k hk]; exact hown, ?_, ?_, ?_⟩
  · intro x hx
    rcases hat with h' | h' <;> rw [h'] at hx
    · exact hv x hx
    · injection hx with hx
      have := hK.size
      have := h1.size
      omega
  · refine (h1.own hs (fun _ _ h => h)).kept hg (.inr ?_)
    intro e
    exact (hv h e.symm).2 rfl
  · have := hK.trans h1
    exact ⟨hg.os.trans this.os, hg.tape.trans this.tape, hg.output.trans this.output, Nat.le_trans this.size hg.size, fun k' hk' _ => (hg.block k' (Nat.lt_of_lt_of_le hk' this.size) (fun e => by have := (hv k' e.symm).1; omega)).trans (this.block k' hk' (fun h => h))⟩

theorem World.news_at (w : World) (cs : Array Value) (t : TypeId) (n : Nat) (hn : n = w.heap.size) : ∀ j u, cs.toList[j]? = some u → (w.alloc (.cells cs t)).cell? ((⟨n, 0, none⟩ : Addr).add j) = some u :=
  World.news_of_block (fr := (0, 0)) (by rw [hn]; exact heap_alloc_new w _)

set_option maxHeartbeats 1000000 in
theorem lawEvents_loop (w : World) (b m : Nat) (ev : Value) (E : List EvD) (most : Int) (h0 : 0 < most) (hm63 : most ≤ 9223372036854775807) (h9 : w.cell? ⟨b, 9, none⟩ = some ev) (hown : w.ownsRow 0 57 10 ev m (flatE E)) (hm : m ≤ 2000) (hl : E.length = m) (hm0 : 0 < m) :
    Calls Try.prog 16 #[.pointer (some ⟨b, 0, none⟩), .int .i64 most] w fun e w' => ∃ v, e = .returned v ∧ w'.ownsRow 0 57 10 v (min most.toNat m) (flatE (E.take most.toNat)) ∧ (∀ x, v.ownBlock = some x → w.heap.size ≤ x) ∧ Kept (fun _ => False) w w' := by
  obtain ⟨i0, hi0, hz0, hz1, hz2⟩ := info_parts Try.infoEv
  have hbs : b < w.heap.size := World.block_lt_of_cell? w _ h9
  have HO := Lib.hid hown
  have HL := Lib.hid hl
  clear hown hl
  go_enter Try.func16, Try.ntmps16
  go_wp2_with (go_at_call 28; refine (events_calls _ b ev m E (by rw [World.cell?_alloc_past _ _ _ hbs]; exact h9) (HO.out.alloc _) hm).mono ?_; rintro e w1 ⟨sv, rfl, hsv, hsx, hK1⟩; obtain ⟨SA, SC, rfl⟩ := own_form hsv)
  obtain ⟨h, hSA⟩ : ∃ h, SA = some ⟨h, 0, none⟩ := by
    rcases hsv.2 with ⟨_, rfl⟩ | ⟨g, cap, cur, hv, _⟩
    · omega
    · simp at hv; exact ⟨g, hv.1⟩
  subst hSA
  have hh := hsx h rfl
  simp at hh
  go_loopw [5, 15] (fun v i wr => EvRel w h m SC E most v i wr) (fun _ i _ => m - (intOf i).toNat)
  case atStart =>
    refine ⟨0, Nat.zero_le _, by omega, rfl, ?_, ?_, hsv, by omega, ((Kept.refl _ _).alloc _).trans hK1⟩
    · exact hK1.own (ownsRow_empty w _ _) (fun _ _ h => h)
    · intro x hx
      simp [Value.ownBlock] at hx
      omega
  case round =>
    obtain ⟨k, hk, hkm, rfl, hvo, hvx, hso, hhs, hKr⟩ := hrel
    rename_i v wr
    obtain ⟨VA, VC, rfl⟩ := own_form hvo
    have hhl : h < wr.heap.size := (hso.lt h rfl).2
    by_cases hlt : k < m
    · obtain ⟨e, he, c0, c1, c2, c3, c4, c5, c6, c7, c8, c9⟩ := ev_cells hso hlt HL.out
      have HVO := Lib.hid hvo
      have HVX := Lib.hid hvx
      have HSO := Lib.hid hso
      have HKR := Lib.hid hKr
      have HE := Lib.hid he
      have hm2 : k ≤ 2000 := by omega
      clear hvo hvx hso hKr he hsv hsx hK1
      go_wp2_with (at_builtin; refine wpList_append_own_at _ rfl (.tmp 19) (.tmp 21) 29 rfl 0 57 i0 _ 10 80 Try.underlying29 hi0 hz0 hz1 hz2 rfl (by decide) (.slice VA k VC) k (flatE (E.take k)) rfl ((HVO.out.alloc _).alloc _) ⟨wr.heap.size + 1, 0, none⟩ 1 1 e.L rfl rfl (World.news_at _ _ _ _ (by simp)) (by simp [EvD.L, eventL, Value.oneCell']) (by unfold maxLen; omega) (by omega) (Nat.zero_le _) ?_; intro v1 w3 hown1 hgrow _ hat; obtain ⟨VA1, VC1, rfl⟩ := own_form hown1)
      · have hq : ((k : Int) + 1 == most) = true := by assumption
        have hq' : (k : Int) + 1 = most := by simpa using hq
        go_ret
        obtain ⟨s1, s2, s3, s4⟩ := ev_step (W := (wr.alloc _).alloc _) HVX.out HSO.out HKR.out (((Kept.refl _ _).alloc _).alloc _) HE.out hown1 hgrow hat hhl
        have hmt : most.toNat = k + 1 := by omega
        refine ⟨_, rfl, ?_, fun x hx => (s2 x hx).1, s4⟩
        rw [hmt, Nat.min_eq_left hlt]
        exact s1
      · have hq : ((k : Int) + 1 == most) = false := by assumption
        have hq' : ¬ (k : Int) + 1 = most := by simpa using hq
        obtain ⟨s1, s2, s3, s4⟩ := ev_step (W := (wr.alloc _).alloc _) HVX.out HSO.out HKR.out (((Kept.refl _ _).alloc _).alloc _) HE.out hown1 hgrow hat hhl
        exact ⟨⟨k + 1, by omega, by omega, rfl, s1, s2, s3, hhs, s4⟩, by simp [intOf]; omega⟩
    · have hkm' : k = m := by omega
      subst hkm'
      go_wp2
      go_ret
      have hmt : k ≤ most.toNat := by omega
      have hl := HL.out
      refine ⟨_, rfl, ?_, fun x hx => (hvx x hx).1, hKr⟩
      rw [Nat.min_eq_right hmt, List.take_of_length_le (by omega)]
      rwa [List.take_of_length_le (by omega)] at hvo

set_option maxHeartbeats 400000 in
theorem lawEvents_zero (w : World) (b : Nat) (ev : Value) (most : Int) (h0 : 0 < most) (h9 : w.cell? ⟨b, 9, none⟩ = some ev) (hown : w.ownsRow 0 57 10 ev 0 (flatE [])) :
    Calls Try.prog 16 #[.pointer (some ⟨b, 0, none⟩), .int .i64 most] w fun e w' => ∃ v, e = .returned v ∧ w'.ownsRow 0 57 10 v 0 [] ∧ (∀ x, v.ownBlock = some x → w.heap.size ≤ x) ∧ Kept (fun _ => False) w w' := by
  have hbs : b < w.heap.size := World.block_lt_of_cell? w _ h9
  have HO := Lib.hid hown
  clear hown
  go_enter Try.func16, Try.ntmps16
  go_wp2_with (go_at_call 28; refine (events_calls _ b ev 0 [] (by rw [World.cell?_alloc_past _ _ _ hbs]; exact h9) (HO.out.alloc _) (by omega)).mono ?_; rintro e w1 ⟨sv, rfl, hsv, hsx, hK1⟩; obtain ⟨SA, SC, rfl⟩ := own_form hsv)
  refine wp_loop_rounds 1 ?_
  rw [rounds_succ]
  go_wp2
  go_ret
  refine ⟨_, rfl, hK1.own (ownsRow_empty w _ _) (fun _ _ h => h), ?_, ((Kept.refl _ _).alloc _).trans hK1⟩
  intro x hx
  simp [Value.ownBlock] at hx
  omega

/-- Up to so many steps. -/
theorem lawEvents (w : World) (b : Nat) (ev : Value) (m : Nat) (E : List EvD) (most : Int) (h9 : w.cell? ⟨b, 9, none⟩ = some ev) (hown : w.ownsRow 0 57 10 ev m (flatE E)) (hm63 : most ≤ 9223372036854775807) (hm : m ≤ 2000) (hl : E.length = m) :
    Calls Try.prog 16 #[.pointer (some ⟨b, 0, none⟩), .int .i64 most] w fun e w' => ∃ A c, e = .returned (.slice A (min most.toNat m) c) ∧ w'.ownsRow 0 57 10 (.slice A (min most.toNat m) c) (min most.toNat m) (flatE (E.take most.toNat)) ∧ (∀ x, A = some x → w.heap.size ≤ x.block) ∧ Kept (fun _ => False) w w' := by
  have fin : ∀ (n : Nat) (xs : List Value), n = min most.toNat m → xs = flatE (E.take most.toNat) → ∀ (e : Ending) (w' : World), (∃ v, e = .returned v ∧ w'.ownsRow 0 57 10 v n xs ∧ (∀ x, v.ownBlock = some x → w.heap.size ≤ x) ∧ Kept (fun _ => False) w w') →
      ∃ A c, e = .returned (.slice A (min most.toNat m) c) ∧ w'.ownsRow 0 57 10 (.slice A (min most.toNat m) c) (min most.toNat m) (flatE (E.take most.toNat)) ∧ (∀ x, A = some x → w.heap.size ≤ x.block) ∧ Kept (fun _ => False) w w' := by
    rintro n xs hn hx e w' ⟨v, he, ho, hv, hk⟩
    subst hn hx
    obtain ⟨A, c, rfl⟩ := own_form ho
    exact ⟨A, c, he, ho, fun x hx => hv x.block (by rw [hx]; rfl), hk⟩
  by_cases h0 : 0 < most
  · rcases Nat.eq_zero_or_pos m with h | h
    · subst h
      have hE : E = [] := List.eq_nil_of_length_eq_zero hl
      subst hE
      exact (lawEvents_zero w b ev most h0 h9 hown).mono (fin _ _ (by omega) (by simp [flatE]))
    · exact (lawEvents_loop w b m ev E most h0 hm63 h9 hown hm hl h).mono (fin _ _ rfl rfl)
  · exact (lawEvents_none w b most (by omega)).mono (fin _ _ (by omega) (by rw [show most.toNat = 0 from by omega]; simp [flatE]))

end Go.Proofs.Ytkinnhdagdkhcaa
