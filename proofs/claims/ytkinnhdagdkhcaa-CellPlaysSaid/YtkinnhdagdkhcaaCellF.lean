/- Layer 1 (cell): slices.Clone at cells and at events, Events, Clone. -/
import Derived.Test.YtkinnhdagdkhcaaCellE
import Derived.Test.YtkinnhdagdkhcaaCellD
import Derived.Lib.LazyBuf
namespace Go.Proofs.Ytkinnhdagdkhcaa
open Go.RowKit

/-- A step that was done. -/
structure EvD where
  who : Int
  k : Int
  i : Int
  o : Int × Int
  n : Int × Int
  p : Int × Int
  ok : Bool
def EvD.L (e : EvD) : List Value := eventL e.who e.k e.i e.o e.n e.p e.ok
def flatE : List EvD → List Value
  | [] => []
  | e :: r => e.L ++ flatE r
theorem flatE_append (a b : List EvD) : flatE (a ++ b) = flatE a ++ flatE b := by
  induction a with
  | nil => rfl
  | cons e r ih => simp [flatE, ih]
theorem flatE_one (e : EvD) : flatE [e] = e.L := by simp [flatE]
theorem flatE_length (a : List EvD) : (flatE a).length = a.length * 10 := by
  induction a with
  | nil => rfl
  | cons e r ih => simp [flatE, ih, EvD.L, eventL]; omega
theorem flatE_cell (a : List EvD) : ∀ (j : Nat) (e : EvD), a[j]? = some e → ∀ t, t < 10 → (flatE a)[j * 10 + t]? = e.L[t]? := by
  induction a with
  | nil => intro j e h; simp at h
  | cons c r ih =>
    intro j e h t ht
    cases j with
    | zero =>
      simp at h; subst h
      rw [flatE, List.getElem?_append_left (by simp [EvD.L, eventL]; omega)]
      simp
    | succ j =>
      simp at h
      have := ih j e h t ht
      rw [flatE, List.getElem?_append_right (by simp [EvD.L, eventL]; omega)]
      rw [← this]
      congr 1
      simp [EvD.L, eventL]; omega
theorem flatE_one' (a : List EvD) : ∀ u ∈ flatE a, u.oneCell' = true := by
  induction a with
  | nil => intro u h; simp [flatE] at h
  | cons e r ih =>
    intro u h
    rw [flatE, List.mem_append] at h
    rcases h with h | h
    · simp [EvD.L, eventL] at h
      rcases h with rfl | rfl | rfl | rfl | rfl | rfl | rfl | rfl | rfl | rfl <;> rfl
    · exact ih u h
theorem flat_one' (a : List (Int × Int)) : ∀ u ∈ flat a, u.oneCell' = true := by
  induction a with
  | nil => intro u h; simp [flat] at h
  | cons e r ih =>
    intro u h
    simp only [flat, List.mem_cons] at h
    rcases h with rfl | rfl | h
    · rfl
    · rfl
    · exact ih u h

theorem RowC.own {w : World} {g cap : Nat} {cs : List (Int × Int)} (h : RowC w g cap cs) : w.ownsRow 0 35 2 (.slice (some ⟨g, 0, none⟩) cs.length cap) cs.length (flat cs) := by
  obtain ⟨cur, hb, hl, hm, hs, ht⟩ := h
  exact ⟨flat_length cs, .inr ⟨g, cap, cur, rfl, Nat.zero_le _, hb, hl, hm, hs, ht⟩⟩
theorem RowC.of_own {w : World} {cs : List (Int × Int)} {v : Value} (h : w.ownsRow 0 35 2 v cs.length (flat cs)) (hv : v ≠ .slice none 0 0) : ∃ g cap, v = .slice (some ⟨g, 0, none⟩) cs.length cap ∧ RowC w g cap cs := by
  rcases h.2 with ⟨rfl, _⟩ | ⟨g, cap, cur, rfl, _, hb, hl, hm, hs, ht⟩
  · exact absurd rfl hv
  · exact ⟨g, cap, rfl, cur, hb, hl, hm, hs, ht⟩

theorem own_form {w : World} {base n size : Nat} {e : TypeId} {v : Value} {xs : List Value} (h : w.ownsRow base e size v n xs) : ∃ A c, v = .slice A n c := by
  rcases h.2 with ⟨rfl, rfl⟩ | ⟨g, cap, cur, rfl, _⟩
  · exact ⟨none, 0, rfl⟩
  · exact ⟨_, _, rfl⟩
theorem ownsRow_empty (w : World) (e : TypeId) (size : Nat) : (w.alloc (.cells #[] e)).ownsRow 0 e size (.slice (some ⟨w.heap.size, 0, none⟩) 0 0) 0 [] :=
  ⟨by simp, .inr ⟨w.heap.size, 0, #[], rfl, Nat.zero_le _, heap_alloc_new w _, Nat.le_refl _, by simp [maxLen], by simp, by simp⟩⟩

set_option maxHeartbeats 400000 in
theorem cloneEv_nil (w : World) :
    Calls Try.prog 30 #[.slice none 0 0] w fun e w' => e = .returned (.slice none 0 0) ∧ w' = w := by
  have hz := fun W : World => run_eql_slice_nil (P := Try.prog) W 29 57 none 0 0 Try.underlying29
  go_enter Try.func30, Try.ntmps30
  go_wp2
  go_ret
  exact ⟨rfl, rfl⟩

set_option maxHeartbeats 400000 in
theorem cloneEv_some (w : World) (g m cap : Nat) (E : List EvD) (hown : w.ownsRow 0 57 10 (.slice (some ⟨g, 0, none⟩) m cap) m (flatE E)) (hm : m ≤ 2000) :
    Calls Try.prog 30 #[.slice (some ⟨g, 0, none⟩) m cap] w fun e w' => ∃ v', e = .returned v' ∧ w'.ownsRow 0 57 10 v' m (flatE E) ∧ (∀ x, v'.ownBlock = some x → w.heap.size ≤ x) ∧ Kept (fun _ => False) w w' := by
  obtain ⟨i0, hi0, hz0, hz1, hz2⟩ := info_parts Try.infoEv
  have hz := fun W : World => run_eql_slice_nil (P := Try.prog) W 29 57 (some ⟨g, 0, none⟩) m cap Try.underlying29
  have hgl : g < w.heap.size := (hown.lt g rfl).2
  have HO := Lib.hid hown
  clear hown
  go_enter Try.func30, Try.ntmps30
  go_wp2_with (at_builtin; refine wpList_append_own_at _ rfl _ _ 29 rfl 0 57 i0 _ 10 80 Try.underlying29 hi0 hz0 hz1 hz2 rfl (by decide) (.slice (some ⟨w.heap.size, 0, none⟩) 0 0) 0 [] rfl (ownsRow_empty w _ _) ⟨g, 0, none⟩ m cap (flatE E) rfl HO.out.1 ((HO.out.alloc _).cells (g := g) rfl) (flatE_one' E) (by unfold maxLen; omega) (by omega) (Nat.zero_le _) ?_; intro v1 w1 hown1 hgrow _ hat)
  go_ret
  refine ⟨v1, rfl, by simpa using hown1, ?_, ?_⟩
  · intro x hx
    rcases hat with h | h <;> rw [h] at hx <;> simp [Value.ownBlock] at hx <;> omega
  · have h1 : Kept (fun _ => False) w (w.alloc (.cells #[] 57)) := (Kept.refl _ _).alloc _
    exact ⟨hgrow.os.trans h1.os, hgrow.tape.trans h1.tape, hgrow.output.trans h1.output, Nat.le_trans h1.size hgrow.size, fun k hk _ => (hgrow.block k (Nat.lt_of_lt_of_le hk h1.size) (by simp [Value.ownBlock]; omega)).trans (h1.block k hk (by simp))⟩

theorem cloneEv (w : World) (ev : Value) (m : Nat) (E : List EvD) (hown : w.ownsRow 0 57 10 ev m (flatE E)) (hm : m ≤ 2000) :
    Calls Try.prog 30 #[ev] w fun e w' => ∃ v', e = .returned v' ∧ w'.ownsRow 0 57 10 v' m (flatE E) ∧ (∀ x, v'.ownBlock = some x → w.heap.size ≤ x) ∧ Kept (fun _ => False) w w' := by
  rcases hown.2 with ⟨rfl, rfl⟩ | ⟨g, cap, cur, rfl, _⟩
  · refine (cloneEv_nil w).mono fun e w' ⟨he, hw⟩ => ?_
    subst hw
    exact ⟨_, he, hown, by simp [Value.ownBlock], Kept.refl _ _⟩
  · exact cloneEv_some w g m cap E hown hm

set_option maxHeartbeats 400000 in
theorem cloneC (w : World) (g n cap : Nat) (cs : List (Int × Int)) (hr : RowC w g cap cs) (hn : cs.length = n) (hm : n ≤ 65536) :
    Calls Try.prog 29 #[.slice (some ⟨g, 0, none⟩) n cap] w fun e w' => ∃ g' cap', e = .returned (.slice (some ⟨g', 0, none⟩) n cap') ∧ RowC w' g' cap' cs ∧ w.heap.size ≤ g' ∧ Kept (fun _ => False) w w' := by
  obtain ⟨i0, hi0, hz0, hz1, hz2⟩ := info_parts Try.infoCell
  have hz := fun W : World => run_eql_slice_nil (P := Try.prog) W 28 35 (some ⟨g, 0, none⟩) n cap Try.underlying28
  have hown := hr.own
  rw [hn] at hown
  have hgl : g < w.heap.size := (hown.lt g rfl).2
  have HO := Lib.hid hown
  have HN := Lib.hid hn
  clear hown hr hn
  go_enter Try.func29, Try.ntmps29
  go_wp2_with (at_builtin; refine wpList_append_own_at _ rfl _ _ 28 rfl 0 35 i0 _ 2 16 Try.underlying28 hi0 hz0 hz1 hz2 rfl (by decide) (.slice (some ⟨w.heap.size, 0, none⟩) 0 0) 0 [] rfl (ownsRow_empty w _ _) ⟨g, 0, none⟩ n cap (flat cs) rfl HO.out.1 ((HO.out.alloc _).cells (g := g) rfl) (flat_one' cs) (by unfold maxLen; omega) (by omega) (Nat.zero_le _) ?_; intro v1 w1 hown1 hgrow hnil hat)
  go_ret
  have hne : v1 ≠ .slice none 0 0 := fun e => by have := (hnil.1 e).1; simp at this
  have ho : w1.ownsRow 0 35 2 v1 cs.length (flat cs) := by rw [HN.out]; simpa using hown1
  obtain ⟨g', cap', rfl, hR⟩ := RowC.of_own ho hne
  refine ⟨g', cap', by rw [HN.out]; rfl, hR, ?_, ?_⟩
  · rcases hat with h | h <;> simp [Value.ownBlock] at h <;> omega
  · have h1 : Kept (fun _ => False) w (w.alloc (.cells #[] 35)) := (Kept.refl _ _).alloc _
    exact ⟨hgrow.os.trans h1.os, hgrow.tape.trans h1.tape, hgrow.output.trans h1.output, Nat.le_trans h1.size hgrow.size, fun k hk _ => (hgrow.block k (Nat.lt_of_lt_of_le hk h1.size) (by simp [Value.ownBlock]; omega)).trans (h1.block k hk (by simp))⟩

set_option maxHeartbeats 400000 in
theorem events_calls (w : World) (b : Nat) (ev : Value) (m : Nat) (E : List EvD) (h9 : w.cell? ⟨b, 9, none⟩ = some ev) (hown : w.ownsRow 0 57 10 ev m (flatE E)) (hm : m ≤ 2000) :
    Calls Try.prog 28 #[.pointer (some ⟨b, 0, none⟩)] w fun e w' => ∃ v', e = .returned v' ∧ w'.ownsRow 0 57 10 v' m (flatE E) ∧ (∀ x, v'.ownBlock = some x → w.heap.size ≤ x) ∧ Kept (fun _ => False) w w' := by
  have HO := Lib.hid hown
  clear hown
  go_enter Try.func28, Try.ntmps28
  go_wp2_with (go_at_call 30; refine (cloneEv _ _ m E HO.out hm).mono ?_; rintro e w1 ⟨v', rfl, h1, h2, h3⟩)
  go_ret
  exact ⟨v', rfl, h1, h2, h3⟩

theorem ten_of {W : World} {b : Nat} {cv ev : Value} {s : Fin 8 → Int} (h : Blk W b 65 (memArr cv ev s)) :
    W.cell? ⟨b, 0, none⟩ = some cv ∧ W.cell? ⟨b, 1, none⟩ = some (.int .i64 (s 0)) ∧ W.cell? ⟨b, 2, none⟩ = some (.int .i64 (s 1)) ∧ W.cell? ⟨b, 3, none⟩ = some (.int .i64 (s 2)) ∧ W.cell? ⟨b, 4, none⟩ = some (.int .i64 (s 3)) ∧
    W.cell? ⟨b, 5, none⟩ = some (.int .i64 (s 4)) ∧ W.cell? ⟨b, 6, none⟩ = some (.int .i64 (s 5)) ∧ W.cell? ⟨b, 7, none⟩ = some (.int .i64 (s 6)) ∧ W.cell? ⟨b, 8, none⟩ = some (.int .i64 (s 7)) ∧ W.cell? ⟨b, 9, none⟩ = some ev :=
  ⟨h.cell 0, h.cell 1, h.cell 2, h.cell 3, h.cell 4, h.cell 5, h.cell 6, h.cell 7, h.cell 8, h.cell 9⟩

set_option maxHeartbeats 3000000 in
theorem clone_calls (w : World) (b g cap : Nat) (ev : Value) (cs : List (Int × Int)) (s : Fin 8 → Int) (E : List EvD) (m : Nat) (M : IsMem w b g cap ev cs s (flatE E) m) (hn : cs.length ≤ 65536) (hm : m ≤ 2000) :
    Calls Try.prog 20 #[.pointer (some ⟨b, 0, none⟩)] w fun e w' => ∃ b' g' cap' ev', e = .returned (.pointer (some ⟨b', 0, none⟩)) ∧ IsMem w' b' g' cap' ev' cs s (flatE E) m ∧ Kept (fun _ => False) w w' ∧
      w.heap.size ≤ b' ∧ w.heap.size ≤ g' ∧ (∀ x, ev'.ownBlock = some x → w.heap.size ≤ x) := by
  have HM := Lib.hid M
  have hbs := M.blk.lt
  clear M
  go_enter Try.func20, Try.ntmps20
  go_upto_region 1 with fail
  go_region_held3 (fun W => W.cell? ⟨b, 0, none⟩ = some (.slice (some ⟨g, 0, none⟩) cs.length cap) ∧ W.cell? ⟨b, 1, none⟩ = some (.int .i64 (s 0)) ∧ W.cell? ⟨b, 2, none⟩ = some (.int .i64 (s 1)) ∧ W.cell? ⟨b, 3, none⟩ = some (.int .i64 (s 2)) ∧ W.cell? ⟨b, 4, none⟩ = some (.int .i64 (s 3)) ∧
    W.cell? ⟨b, 5, none⟩ = some (.int .i64 (s 4)) ∧ W.cell? ⟨b, 6, none⟩ = some (.int .i64 (s 5)) ∧ W.cell? ⟨b, 7, none⟩ = some (.int .i64 (s 6)) ∧ W.cell? ⟨b, 8, none⟩ = some (.int .i64 (s 7)) ∧ W.cell? ⟨b, 9, none⟩ = some ev)
    (first
      | exact ten_of HM.out.blk
      | exact ten_of HM.out.blk.drew
      | exact ten_of (M2.blk.alloc _)
      | exact ten_of M2.blk
      | exact ten_of M1.blk)
    (first
      | (go_at_call 29; refine (cloneC _ g cs.length cap cs ?_ rfl hn).mono ?_; exact HM.out.row; rintro e w1 ⟨g', cap', rfl, hR, hgs, hK1⟩; have M1 := HM.out.keep (Kept.of_drew hK1) (fun h => h) (fun h => h) (fun _ _ h => h))
      | (go_at_call 30; refine (cloneEv _ ev m E ?_ hm).mono ?_; exact HM.out.evs; rintro e w1 ⟨ev', rfl, hE, hes, hK1⟩; obtain ⟨EA, EC, rfl⟩ := own_form hE; have M1 := HM.out.keep (Kept.of_drew hK1) (fun h => h) (fun h => h) (fun _ _ h => h))
      | (go_at_call 29; refine (cloneC _ g cs.length cap cs ?_ rfl hn).mono ?_; exact M1.row; rintro e w2 ⟨g', cap', rfl, hR, hgs, hK2⟩; have M2 := M1.keep hK2 (fun h => h) (fun h => h) (fun _ _ h => h))
      | (go_at_call 30; refine (cloneEv _ ev m E ?_ hm).mono ?_; exact M1.evs; rintro e w2 ⟨ev', rfl, hE, hes, hK2⟩; obtain ⟨EA, EC, rfl⟩ := own_form hE; have M2 := M1.keep hK2 (fun h => h) (fun h => h) (fun _ _ h => h)))
  go_wp2
  go_ret
  have hs1 := hK1.size
  have hs2 := hK2.size
  simp at hs1
  refine ⟨w2.heap.size, g', cap', _, rfl, ⟨Blk.new' _ _ _ _ rfl, ?_, hE.alloc _⟩, ((Kept.of_drew hK1).trans hK2).alloc _, by omega, by simpa using hgs, ?_⟩
  · obtain ⟨cur, hb, r⟩ := hR
    exact ⟨cur, (hK2.blk hb (fun h => h)).alloc _, r⟩
  · intro x hx
    exact Nat.le_trans (by simpa using hs1) (hes x hx)

/-- The law's own 'events': up to so many steps. -/
theorem take_snocE (E : List EvD) (k : Nat) (h : k < E.length) : flatE (E.take (k + 1)) = flatE (E.take k) ++ E[k].L := by
  rw [List.take_succ_eq_append_getElem h, flatE_append, flatE_one]

set_option maxHeartbeats 400000 in
theorem lawEvents_none (w : World) (b : Nat) (most : Int) (h : most ≤ 0) :
    Calls Try.prog 16 #[.pointer (some ⟨b, 0, none⟩), .int .i64 most] w fun e w' => ∃ v, e = .returned v ∧ w'.ownsRow 0 57 10 v 0 [] ∧ (∀ x, v.ownBlock = some x → w.heap.size ≤ x) ∧ Kept (fun _ => False) w w' := by
  go_enter Try.func16, Try.ntmps16
  go_wp2
  go_ret
  refine ⟨_, rfl, ownsRow_empty w _ _, ?_, (Kept.refl _ _).alloc _⟩
  intro x hx
  simp [Value.ownBlock] at hx
  omega

end Go.Proofs.Ytkinnhdagdkhcaa
