/- Layer 8 (wset): the law's 'all' as a whole; undo; Back. -/
import Derived.Test.YtebffkoonbkhnaaWsS
namespace Go.Proofs.Ytebffkoonbkhnaa
open Go.RowKit Go.Maps

section
variable {w : World} {b : Nat} {room : Int} {ps : List (Int × Int)} {n : Nat} {F : Nat → Prop}
set_option maxHeartbeats 1000000 in
theorem lawAll_zero (h : ISet w b room ps n F) (hp : ps.length ≤ 60000) (most : Int) (h0 : 0 < most) (hne : ents ps = []) :
    Calls Try.prog 62 #[.pointer (some ⟨b, 0, none⟩), .int .i64 most] w (Made 129 w []) := by
  have HS := Lib.hid h
  have HN := Lib.hid hne
  clear h hne
  go_enter Try.func62, Try.ntmps62
  go_wp2_with (go_at_call 92; refine (all_calls (HS.out.keep ((Kept.refl _ _).alloc _)) hp).mono ?_; rw [HN.out]; rintro e w1 ⟨sv, rfl, hsv, hsx, hK1⟩; obtain ⟨SA, SC, rfl⟩ := own_form hsv; have HK1 := Lib.hid hK1; clear hsv hsx hK1; simp only [List.length_nil])
  refine wp_loop_rounds 1 ?_
  rw [rounds_succ]
  go_wp2_with fail
  go_ret
  refine ⟨_, rfl, HK1.out.own (own_base (own_empty w 129 2) (fun _ _ => Nat.zero_le _)) (fun _ _ h => h), ?_, ((Kept.refl _ _).alloc _).trans HK1.out⟩
  intro x hx
  simp [Value.ownBlock] at hx
  omega
set_option maxHeartbeats 1000000 in
theorem lawAll_none (b : Nat) (most : Int) (h0 : most ≤ 0) (w : World) :
    Calls Try.prog 62 #[.pointer (some ⟨b, 0, none⟩), .int .i64 most] w (Made 129 w []) := by
  go_enter Try.func62, Try.ntmps62
  go_wp2_with fail
  go_ret
  refine ⟨_, rfl, own_base (own_empty w 129 2) (fun _ _ => Nat.zero_le _), ?_, (Kept.refl _ _).alloc _⟩
  intro x hx
  simp [Value.ownBlock] at hx
  omega
theorem lawAll (h : ISet w b room ps n F) (hp : ps.length ≤ 60000) (most : Int) (hm : most ≤ 9223372036854775807) :
    Calls Try.prog 62 #[.pointer (some ⟨b, 0, none⟩), .int .i64 most] w (Made 129 w ((ents ps).take most.toNat)) := by
  by_cases h0 : 0 < most
  · rcases Nat.eq_zero_or_pos (ents ps).length with hz | hz
    · have he := List.eq_nil_of_length_eq_zero hz
      have : (ents ps).take most.toNat = [] := by rw [he]; simp
      rw [this]
      exact lawAll_zero h hp most h0 he
    · exact lawAll_loop h hp most h0 hm hz
  · have : (ents ps).take most.toNat = [] := by rw [show most.toNat = 0 by omega]; rfl
    rw [this]
    exact lawAll_none b most (by omega) w
end

/-- The last Put undone. -/
theorem undo_math (ps : List (Int × Int)) (p : Int × Int) :
    (∃ i old, idx (ents ps) p.1 = some i ∧ (ents ps)[i]? = some (p.1, old) ∧ ents (ps ++ [p]) = (ents ps).set i p ∧ chs (ps ++ [p]) = chs ps ++ [⟨i, old, false⟩]) ∨
    (idx (ents ps) p.1 = none ∧ ents (ps ++ [p]) = ents ps ++ [p] ∧ chs (ps ++ [p]) = chs ps ++ [⟨0, 0, true⟩]) := by
  cases h : idx (ents ps) p.1 with
  | some i =>
    obtain ⟨old, h1, h2⟩ := idx_some h
    exact .inl ⟨i, old, rfl, h1, ents_old h, by rw [chs_old h, h2]; rfl⟩
  | none => exact .inr ⟨rfl, ents_new h, chs_new h⟩

/-- A set in memory behind an undo. -/
def UndoF (w w' : World) (b mb : Nat) (ev cv : Value) (room : Int) (es ks : List (Int × Int)) (cs : List ChD) (n : Nat) : Prop :=
  ∃ ev', SetC w' b mb ev' cv room es ks cs n ∧ Kept (Foot b mb ev cv) w w' ∧ ∀ x, Foot b mb ev' cv x → Foot b mb ev cv x

set_option maxRecDepth 100000 in
set_option maxHeartbeats 4000000 in
theorem undo_old {w : World} {b mb : Nat} {ev cv : Value} {room : Int} {es ks : List (Int × Int)} {cs : List ChD} {n : Nat} (M : SetC w b mb ev cv room es ks cs n) (i : Nat) (a v old : Int) (hv : es[i]? = some (a, v)) :
    Calls Try.prog 91 #[.pointer (some ⟨b, 0, none⟩), .agg #[.int .i64 (i : Int), .int .u64 old, .bool false]] w fun e w' => e = .returned (.tuple #[]) ∧ UndoF w w' b mb ev cv room (es.set i (a, old)) ks cs n := by
  have hil : i < es.length := (List.getElem?_eq_some_iff.1 hv).1
  obtain ⟨g, c, rfl, hc⟩ := own_some M.ens (by omega)
  obtain ⟨m, hm⟩ : ∃ m, es.length = m := ⟨_, rfl⟩
  have M1 := M.keep ((Kept.refl _ w).alloc (.cells #[.int .i64 (i : Int), .int .u64 old, .bool false] 162))
  have c1 : (w.alloc (.cells #[.int .i64 (i : Int), .int .u64 old, .bool false] 162)).cell? ⟨b, 1, none⟩ = some (.slice (some ⟨g, 0, none⟩) m c) := by rw [← hm]; exact M1.blk.cell 1
  have hval : (w.alloc (.cells #[.int .i64 (i : Int), .int .u64 old, .bool false] 162)).cell? ⟨g, i * 2 + 1, none⟩ = some (.int .u64 v) := by rw [M1.ens.cellAt (i * 2 + 1) (by omega)]; exact (entL_at es i _ hv).2
  have hf := M1.ens.frozenAt (i * 2 + 1)
  have hil' : (i : Int) < m := by omega
  have hi0' : (0 : Int) ≤ i := by omega
  have HR := Lib.hid (M1.turn (v' := old) hv)
  have HK := Lib.hid (((Kept.refl (Foot b mb (.slice (some ⟨g, 0, none⟩) es.length c) cv) w).alloc (.cells #[.int .i64 (i : Int), .int .u64 old, .bool false] 162)).setCell (p := ⟨g, i * 2 + 1, none⟩) (.inl (.inr (.inr (.inl rfl)))) (.int .u64 old))
  clear M M1 hv hm hil
  go_enter Try.func91, Try.ntmps91
  go_wp2_with fail
  go_region
  go_wp2_with fail
  exact bodyPost_ret (v := .tuple #[]) (by simp [results, Try.results91, go_sem]) rfl ⟨rfl, _, HR.out.keep ((Kept.refl _ _).drew), HK.out.drew, fun _ h => h⟩

theorem SetC.cut_en {w : World} {b mb g c : Nat} {cv : Value} {room : Int} {es ks : List (Int × Int)} {e : Int × Int} {cs : List ChD} {n : Nat} (M : SetC w b mb (.slice (some ⟨g, 0, none⟩) (es.length + 1) c) cv room (es ++ [e]) ks cs n) :
    SetC (w.setCell ⟨b, 1, none⟩ (.slice (some ⟨g, 0, none⟩) es.length c)) b mb (.slice (some ⟨g, 0, none⟩) es.length c) cv room es ks cs n := by
  have he := M.ens
  rw [List.length_append] at he
  have hc := own_cut he (show es.length ≤ es.length + 1 by omega)
  rw [entL_take, List.take_left' rfl] at hc
  exact M.field hc M.chg rfl
set_option maxRecDepth 100000 in
set_option maxHeartbeats 4000000 in
theorem undo_new {w : World} {b mb : Nat} {ev cv : Value} {room : Int} {es : List (Int × Int)} {a v : Int} {cs : List ChD} {n : Nat} (M : SetC w b mb ev cv room (es ++ [(a, v)]) (es ++ [(a, v)]) cs n) (ha : I64 a) (hi : idx es a = none) (hl : es.length ≤ 70000) (p q : Int) :
    Calls Try.prog 91 #[.pointer (some ⟨b, 0, none⟩), .agg #[.int .i64 p, .int .u64 q, .bool true]] w fun e w' => e = .returned (.tuple #[]) ∧ UndoF w w' b mb ev cv room es es cs n := by
  obtain ⟨g, c, rfl, hc⟩ := own_some M.ens (by simp)
  rw [List.length_append] at hc M ⊢
  simp only [List.length_cons, List.length_nil, Nat.zero_add] at hc M ⊢
  obtain ⟨m, hm⟩ : ∃ m, es.length = m := ⟨_, rfl⟩
  have M1 := M.keep ((Kept.refl _ w).alloc (.cells #[.int .i64 p, .int .u64 q, .bool true] 162))
  have HMM := Lib.hid hm
  have HK0 := Lib.hid ((Kept.refl (fun _ => False) w).alloc (.cells #[.int .i64 p, .int .u64 q, .bool true] 162))
  have hfr : ∃ W, w.alloc (.cells #[.int .i64 p, .int .u64 q, .bool true] 162) = W := ⟨_, rfl⟩
  have c1 : (w.alloc (.cells #[.int .i64 p, .int .u64 q, .bool true] 162)).cell? ⟨b, 1, none⟩ = some (.slice (some ⟨g, 0, none⟩) (m + 1) c) := by rw [← hm]; exact M1.blk.cell 1
  have HM1 := Lib.hid M1
  have HI := Lib.hid hi
  have hml : m ≤ 70000 := by omega
  clear M M1 hi hm hl
  go_enter Try.func91, Try.ntmps91
  go_upto_region 4 with fail
  obtain ⟨W, hW⟩ := hfr
  rw [hW] at HM1 HK0 ⊢
  clear hW c1
  have q1 : W.cell? ⟨b, 1, none⟩ = some (.slice (some ⟨g, 0, none⟩) (m + 1) c) := by rw [← HMM.out]; exact HM1.out.blk.cell 1
  have q2 : W.cell? ⟨b, 2, none⟩ = some (.map (some mb)) := HM1.out.blk.cell 2
  have q3 : W.cell? ⟨g, m * 2, none⟩ = some (.int .i64 a) := by
    have h := HM1.out.ens
    rw [List.length_append] at h
    rw [← HMM.out]
    exact (ent_cells h (k := es.length) (e := (a, v)) (by simp) (by simp)).1
  have b1 : (0 : Int) ≤ (m : Int) := by omega
  have b2 : (m : Int) < ((m + 1 : Nat) : Int) := by omega
  have b3 : (m : Int) < (m : Int) + 1 := by omega
  go_still_tail 12, (by kernel_rfl)
  repeat (first | still_step | (refine wpStill_step (fun K hK => ?_); go_simp; simp only [q1, q2, q3, Result.andThen]; refine ⟨rfl, hK _ ?_⟩; clear hK K))
  change wpList _ _ _ _ _ W.drew
  obtain ⟨D, ⟨ee, ck, h1, h2⟩, hIs, hD⟩ := HM1.out.map
  have hown : W.drew.ownsMap Try.prog 3 (plainElem Try.prog 3) mb n D := ⟨ee, ck, h1, h2⟩
  have HIs := Lib.hid hIs
  have HD := Lib.hid hD
  have hkey := keyOf_int_mk (P := Try.prog) Try.underlying3 ha.wf
  refine wpList_delete_own W.drew rfl _ _ 106 3 rfl 3 lawInt Try.underlying106 _ mb n D rfl hown _ _ rfl hkey ?_
  intro w3 hown3 hturn
  have HK3 : Hid (Kept (fun k => k = mb) W w3) := Lib.hid ((Kept.grown hturn.grown).of_drew.mono (fun k _ h => Option.some.inj h))
  have HM3 := Lib.hid (HM1.out.table HK3.out (IMap.del HIs.out a v HI.out HD.out hown3))
  have hcm : (m : Int) ≤ c := by have := HMM.out; omega
  have hcn : m ≤ c := by omega
  clear hown hown3 hturn hIs hD hkey h1 h2 q1 q2 q3 hc
  have r1 : w3.cell? ⟨b, 1, none⟩ = some (.slice (some ⟨g, 0, none⟩) (m + 1) c) := by rw [← HMM.out]; exact HM3.out.blk.cell 1
  have f1 := HM3.out.blk.frozen 1
  have HR : Hid (SetC (w3.setCell ⟨b, 1, none⟩ (.slice (some ⟨g, 0, none⟩) m c)) b mb (.slice (some ⟨g, 0, none⟩) m c) cv room es es cs n) := Lib.hid (by rw [← HMM.out]; exact SetC.cut_en HM3.out)
  go_wp2_with fail
  go_end0
  refine ⟨rfl, _, HR.out, ?_, ?_⟩
  · refine (HK0.out.mono (T := Foot b mb (.slice (some ⟨g, 0, none⟩) (es.length + 1) c) cv) (fun _ _ h => h.elim)).trans' ((HK3.out.mono (T := Foot b mb (.slice (some ⟨g, 0, none⟩) (es.length + 1) c) cv) (fun _ _ h => .inr (.inl h))).setCell (p := ⟨b, 1, none⟩) (.inl (.inl rfl)) _) (fun _ _ h => h)
  · rintro x (h | h | h | h)
    · exact .inl h
    · exact .inr (.inl h)
    · exact .inr (.inr (.inl h))
    · exact .inr (.inr (.inr h))
end Go.Proofs.Ytebffkoonbkhnaa
