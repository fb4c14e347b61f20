/- Layer 8 (wset): Put of a new cell; Put as a whole. -/
import Derived.Test.YthjkodjpopcjaaaWsP
namespace Go.Proofs.Ythjkodjpopcjaaa
open Go.RowKit Go.Maps

set_option maxRecDepth 100000 in
set_option maxHeartbeats 8000000 in
theorem put_new {w : World} {b mb : Nat} {ev cv : Value} {room : Int} {es : List (Int × Int)} {cs : List ChD} {n : Nat} (M : SetC w b mb ev cv room es es cs n) (a v : Int) (ha : I64 a) (hi : idx es a = none) (hr : (es.length : Int) < room)
    (hl : es.length ≤ 70000) (hcl : cs.length ≤ 70000) (hn : n ≤ 70000) :
    Calls Try.prog 77 #[.pointer (some ⟨b, 0, none⟩), .int .i64 a, .int .u64 v] w fun e w' => e = .returned (.int .i64 0) ∧ PutF w w' b mb ev cv room (es ++ [(a, v)]) (es ++ [(a, v)]) (cs ++ [⟨0, 0, true⟩]) (n + 1) := by
  obtain ⟨A, c, hev⟩ := own_form M.ens
  obtain ⟨i0, hi0, hz0, hz1, hz2⟩ := info_parts' infoCh
  obtain ⟨j0, hj0, hy0, hy1, hy2⟩ := info_parts' infoEn
  obtain ⟨x, _, _, hlk⟩ := look_ent M.map ha
  have hlk0 := hlk w rfl
  rw [hi] at hlk0
  obtain ⟨m, hm⟩ : ∃ m, es.length = m := ⟨_, rfl⟩
  rw [hm] at hev hr
  subst hev
  have c0 : w.cell? ⟨b, 0, none⟩ = some (.int .i64 room) := M.blk.cell 0
  have c1 : w.cell? ⟨b, 1, none⟩ = some (.slice A m c) := M.blk.cell 1
  have c2 : w.cell? ⟨b, 2, none⟩ = some (.map (some mb)) := M.blk.cell 2
  have HM := Lib.hid M
  have HI := Lib.hid hi
  have HMM := Lib.hid hm
  have hml : m ≤ 70000 := by omega
  clear M hlk hi hm hl
  go_enter Try.func77, Try.ntmps77
  go_wp2_with fail
  go_quiet (fail)
  go_wp2_with fail
  obtain ⟨W, hW⟩ : ∃ W, w.drewN nq = W := ⟨_, rfl⟩
  have HK0 : Hid (Kept (fun _ => False) w W) := Lib.hid (by rw [← hW]; exact (Kept.refl _ w).drewN _)
  rw [hW]
  have HM0 := Lib.hid (HM.out.keep HK0.out)
  clear hW c0 c1 c2 hlk0
  have q1 : W.cell? ⟨b, 1, none⟩ = some (.slice A m c) := HM0.out.blk.cell 1
  have q2 : W.cell? ⟨b, 2, none⟩ = some (.map (some mb)) := HM0.out.blk.cell 2
  go_still_tail 10, (by kernel_rfl)
  repeat (first | still_step | (refine wpStill_step (fun K hK => ?_); go_simp; simp only [q1, q2, Result.andThen]; refine ⟨rfl, hK _ ?_⟩; clear hK K))
  change wpList _ _ _ _ _ W.drew
  obtain ⟨D, ⟨ee, ck, h1, h2⟩, hIs, hD⟩ := HM0.out.map
  have hown : W.drew.ownsMap Try.prog 3 (plainElem Try.prog 3) mb n D := ⟨ee, ck, h1, h2⟩
  have HIs := Lib.hid hIs
  have HD := Lib.hid hD
  have hkey := keyOf_int_mk (P := Try.prog) Try.underlying3 ha.wf
  refine wpList_mapUpdate_own W.drew rfl _ _ _ 103 rfl 3 3 lawInt Try.underlying103 _ mb n D rfl hown (by unfold maxLen; omega) _ _ _ rfl rfl hkey _ [] (plainElem_int Try.underlying3 (show (Lit.int .i64 (m : Int)).wf = true from WalkArith.wf_i64 (by omega))) ?_
  intro w3 hown3 hgrow3
  have HK3 : Hid (Kept (fun k => k = mb) W w3) := Lib.hid ((Kept.grown hgrow3).of_drew.mono (fun k _ h => Option.some.inj h))
  have HM3 : Hid (SetC w3 b mb (.slice A m c) cv room es (es ++ [(a, v)]) cs (n + 1)) := Lib.hid (HM0.out.table HK3.out (IMap.put HIs.out HD.out a v HI.out (by rw [HMM.out]; exact hown3)))
  clear hown hown3 hgrow3 hIs hD hkey h1 h2 q1 q2
  have r1 : w3.cell? ⟨b, 1, none⟩ = some (.slice A m c) := HM3.out.blk.cell 1
  have r3 : w3.cell? ⟨b, 3, none⟩ = some cv := HM3.out.blk.cell 3
  have hbl : b < w3.heap.size := HM3.out.blk.lt
  have HEb := Lib.hid HM3.out.b_chg
  go_wp2_with (at_builtin; refine Hid.out ?_)
  refine Lib.hid ?_
  refine wpList_append_own_at _ rfl (.tmp 70) (.tmp 72) 136 rfl 0 146 i0 _ 3 24 Try.underlying136 hi0 hz0 hz1 hz2 rfl (by omega) cv cs.length (chL cs) rfl (HM3.out.chg.alloc _)
            ⟨w3.heap.size, 0, none⟩ 1 1 [.int .i64 0, .int .u64 0, .bool true] rfl rfl (World.news_of_block (cs := #[.int .i64 0, .int .u64 0, .bool true]) (t := 146) (fr := (0, 0)) (heap_alloc_new w3 _)) (by simp [Value.oneCell'])
            (by unfold maxLen; omega) (by omega) (Nat.zero_le _) ?_
  intro v4 w4 ho4 hg4 _ ha4
  obtain ⟨A4, k4, rfl⟩ := own_form ho4
  have hb4 : Blk w4 b 138 #[.int .i64 room, .slice A m c, .map (some mb), cv] := (HM3.out.blk.alloc _).grown hg4 HEb.out
  have HP4 := Lib.hid (SetC.push_ch (c := ⟨0, 0, true⟩) HM3.out ((Kept.refl _ w3).alloc _) ho4 hg4 (ha4.elim (fun h => .inl h) (fun h => .inr ⟨_, h, by simp⟩)))
  have s1 : w4.cell? ⟨b, 1, none⟩ = some (.slice A m c) := hb4.cell 1
  have s3 : w4.cell? ⟨b, 3, none⟩ = some cv := hb4.cell 3
  have t3 := hb4.frozen 3
  have t1 := hb4.frozen 1
  have hbl4 : b < w4.heap.size := hb4.lt
  clear ho4 hg4 ha4 hb4 r1 r3
  go_wp2_with (at_builtin; refine Hid.out ?_)
  refine Lib.hid ?_
  have HP5 := HP4.out
  obtain ⟨W5, hW5⟩ : ∃ W5, w4.setCell ⟨b, 3, none⟩ (.slice A4 (cs.length + 1) k4) = W5 := ⟨_, rfl⟩
  have hz5 : w4.heap.size = W5.heap.size := by rw [← hW5]; simp [World.setCell]
  rw [hW5] at HP5 ⊢
  obtain ⟨M5, K5, F5⟩ := HP5
  have HM5 := Lib.hid M5
  have HK5 := Lib.hid K5
  have HF5 := Lib.hid F5
  have HZ5 := Lib.hid hz5
  clear hW5 HP4 M5 K5 F5 s1 s3 t3 t1 hz5
  have hEe := Lib.hid HM5.out.b_ens
  refine wpList_append_own_at _ rfl (.tmp 80) (.tmp 84) 135 rfl 0 150 j0 _ 2 16 Try.underlying135 hj0 hy0 hy1 hy2 rfl (by omega) (.slice A m c) m (entL es) rfl (by have := HM5.out.ens; rw [HMM.out] at this; exact this.alloc _)
            ⟨w4.heap.size, 0, none⟩ 1 1 [.int .i64 a, .int .u64 v] rfl rfl (news_at W5 #[.int .i64 a, .int .u64 v] 150 w4.heap.size HZ5.out) (by simp [Value.oneCell'])
            (by unfold maxLen; omega) (by omega) (Nat.zero_le _) ?_
  intro v6 w6 ho6 hg6 _ ha6
  obtain ⟨A6, k6, rfl⟩ := own_form ho6
  have hb6 : Blk w6 b 138 #[.int .i64 room, .slice A m c, .map (some mb), .slice A4 (cs.length + 1) k4] := (HM5.out.blk.alloc _).grown hg6 hEe.out
  have HP6 := Lib.hid (SetC.push_en (e := (a, v)) (ev' := .slice A6 (m + 1) k6) HM5.out ((Kept.refl _ W5).alloc _) (by rw [HMM.out]; exact ho6) hg6 (ha6.elim (fun h => .inl h) (fun h => .inr ⟨_, h, by simp⟩)))
  have s1 : w6.cell? ⟨b, 1, none⟩ = some (.slice A m c) := hb6.cell 1
  have t1 := hb6.frozen 1
  clear ho6 hg6 ha6 hb6
  go_wp2_with fail
  go_ret
  obtain ⟨M7, K7, F7⟩ := HP6.out
  refine ⟨rfl, _, _, M7, ?_, ?_⟩
  · refine (HK0.out.mono (T := Foot b mb (.slice A m c) cv) (fun _ _ h => h.elim)).trans' (((HK3.out.mono (T := Foot b mb (.slice A m c) cv) (fun _ _ h => .inr (.inl h))).trans' HK5.out (fun _ _ h => h)).trans' K7 ?_) (fun _ _ h => h)
    intro k hk hf
    rcases HF5.out k hf with h | h
    · exact h
    · have := HK3.out.size
      omega
  · intro x hx
    rcases F7 x hx with h | h
    · rcases HF5.out x h with h | h
      · exact .inl h
      · exact .inr (by have := HK3.out.size; have := HK0.out.size; omega)
    · exact .inr (by have := HK5.out.size; have := HK3.out.size; have := HK0.out.size; omega)
end Go.Proofs.Ythjkodjpopcjaaa
