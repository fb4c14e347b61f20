/- The document's set (layer 8): Put. -/
import Derived.Test.YtebffkoonbkhnaaWsRd
import Derived.Deep.DeepCutAuto
namespace Go.Proofs.Ytebffkoonbkhnaa
open Go.RowKit Go.Maps

/-- What a Put hands out. -/
def PutP (pv0 : Value) (w : World) (room : Int) (ps : List (Int × Int)) (a v : Int) (e : Ending) (w' : World) : Prop :=
  ∃ pv n, e = .returned (.tuple #[.agg #[.int .i64 room, pv], .int .i64 (putErr room ps a)]) ∧ RowP w' pv n (putS room ps (a, v)) ∧ Kept (fun _ => False) w w' ∧ ∀ z, pv.ownBlock = some z → pv0.ownBlock = some z ∨ w.heap.size ≤ z

theorem RowP.far {w : World} {pv : Value} {n g : Nat} {ps : List (Int × Int)} {cs : Array Value} (h : RowP w pv n ps) (hb : Blk w g 80 cs) (i : Nat) (u : Value) : RowP (w.setCell ⟨g, i, none⟩ u) pv n ps :=
  ⟨h.1, ((Kept.refl (fun k => k = g) w).setAt u).own h.2 (fun z e hz => own_blk_ne h.2 hb (by decide) (by rw [e, hz]))⟩
theorem RowP.keep2 {w : World} {pv : Value} {n g : Nat} {ps : List (Int × Int)} {cs : Array Value} (h : RowP w pv n ps) (hb : Blk w g 80 cs) {u0 u1 : Value} : RowP ((w.setCell ⟨g, 0, none⟩ u0).setCell ⟨g, 1, none⟩ u1) pv n ps :=
  (h.far hb 0 u0).far (hb.set_ 0 u0) 1 u1
set_option maxRecDepth 100000 in
set_option maxHeartbeats 4000000 in
theorem rPut_full {w : World} {pv : Value} {n : Nat} {ps : List (Int × Int)} (h : RowP w pv n ps) (hn : n ≤ 60000) (room a v : Int) (hf : fits room ps a = false) :
    Calls Try.prog 59 #[.agg #[.int .i64 room, pv], .int .i64 a, .int .u64 v] w (PutP pv w room ps a v) := by
  obtain ⟨A, c, rfl⟩ := own_form h.2
  have hf2 := hf
  unfold fits at hf2
  simp only [Bool.or_eq_false_iff, decide_eq_false_iff_not] at hf2
  obtain ⟨hth, hel⟩ := hf2
  have hl := ents_len ps
  rw [h.1] at hl
  obtain ⟨q, hq⟩ : ∃ q, (ents ps).length = q := ⟨_, rfl⟩
  rw [hq] at hel hl
  have hg1 : room ≤ (n : Int) := by omega
  have hg2 : room ≤ (q : Int) := by omega
  obtain ⟨v0, hv0⟩ : ∃ v0, getV ps a = .tuple #[.int .u64 v0, .bool false] := ⟨(look (ents ps) a).getD 0, by unfold getV; rw [hth]⟩
  have HGV := Lib.hid hv0
  have HQ := Lib.hid hq
  have HE : Hid (putErr room ps a = 6) := Lib.hid (by unfold putErr; rw [hf]; rfl)
  have HPS : Hid (putS room ps (a, v) = ps) := Lib.hid (by unfold putS; rw [hf]; rfl)
  have HK2 : Hid (Kept (fun _ => False) w ((w.alloc (.cells #[.int .i64 room, .slice A n c] 80)).alloc (.cells #[.int .i64 0, .slice none 0 0] 80))) := Lib.hid (((Kept.refl _ w).alloc _).alloc _)
  have HP2 := Lib.hid (h.keep HK2.out)
  have HA2 : Hid (Blk ((w.alloc (.cells #[.int .i64 room, .slice A n c] 80)).alloc (.cells #[.int .i64 0, .slice none 0 0] 80)) w.heap.size 80 #[.int .i64 room, .slice A n c]) := Lib.hid ((Blk.new _ _ _).alloc _)
  have HZ2 : Hid (Blk ((w.alloc (.cells #[.int .i64 room, .slice A n c] 80)).alloc (.cells #[.int .i64 0, .slice none 0 0] 80)) (w.heap.size + 1) 80 #[.int .i64 0, .slice none 0 0]) := Lib.hid (Blk.new' _ _ _ _ (by simp))
  clear h hf hth hel hv0 hq
  go_enter Try.func59, Try.ntmps59
  go_wp2_with (go_at_call 63; (refine (rGet_calls HP2.out hn room a).mono ?_); rw [HGV.out]; rintro e w3 ⟨rfl, hk⟩; have HK3 := Lib.hid (HK2.out.trans hk); have HP3 := Lib.hid (HP2.out.keep hk); have HA3 := Lib.hid (hk.blk HA2.out (fun h => h)); have HZ3 := Lib.hid (hk.blk HZ2.out (fun h => h)); clear hk)
  have S3 : Hid (w3.drew.cell? ⟨w.heap.size, 0, none⟩ = some (.int .i64 room) ∧ w3.drew.cell? ⟨w.heap.size, 1, none⟩ = some (.slice A n c)) := Lib.hid ⟨HA3.out.drew.cell 0, HA3.out.drew.cell 1⟩
  go_region_held3 (fun w' => w'.cell? ⟨w.heap.size, 0, none⟩ = some (.int .i64 room) ∧ w'.cell? ⟨w.heap.size, 1, none⟩ = some (.slice A n c))
    (with_reducible (first | exact S4.out | exact S3.out))
    ((go_at_call 48; (refine (rAll_calls (HP3.out.keep (Kept.refl _ _).drew) hn room).mono ?_); rintro e w4 ⟨va, rfl, ho, _, hk⟩; obtain ⟨VA, VC, rfl⟩ := own_form ho; rw [HQ.out]; have HK4 := Lib.hid (HK3.out.drew.trans hk); have HP4 := Lib.hid ((HP3.out.keep (Kept.refl _ _).drew).keep hk); have HA4 := Lib.hid (hk.blk HA3.out.drew (fun h => h)); have HZ4 := Lib.hid (hk.blk HZ3.out.drew (fun h => h)); have S4 : Hid (w4.cell? ⟨w.heap.size, 0, none⟩ = some (.int .i64 room) ∧ w4.cell? ⟨w.heap.size, 1, none⟩ = some (.slice A n c)) := Lib.hid ⟨HA4.out.cell 0, HA4.out.cell 1⟩; clear hk ho))
  have e0 : w4.cell? ⟨w.heap.size, 0, none⟩ = some (.int .i64 room) := HA4.out.cell 0
  have e1 : w4.cell? ⟨w.heap.size, 1, none⟩ = some (.slice A n c) := HA4.out.cell 1
  have r0 : w4.cell? ⟨w.heap.size + 1, 0, none⟩ = some (.int .i64 0) := HZ4.out.cell 0
  have r1 : w4.cell? ⟨w.heap.size + 1, 1, none⟩ = some (.slice none 0 0) := HZ4.out.cell 1
  have z0 := HZ4.out.frozen 0
  have z1 := HZ4.out.frozen 1
  go_wp2_with fail
  refine bodyPost_ret (v := .tuple #[.agg #[.int .i64 room, .slice A n c], .int .i64 6]) (results_cell_slot (q := 7) rfl _ _ (w.heap.size + 1) 80 #[.int .i64 room, .slice A n c] (0, 0) _ rfl ((HZ4.out.set_ 0 _).set_ 1 _) Try.underlying80 rfl (by kernel_rfl)) rfl ⟨.slice A n c, n, by rw [HE.out], by rw [HPS.out]; exact HP4.out.keep2 HZ4.out, (HK4.out.setCell (.inr (by show w.heap.size ≤ w.heap.size + 1; omega)) _).setCell (.inr (by show w.heap.size ≤ w.heap.size + 1; omega)) _, fun z e => .inl e⟩

set_option maxRecDepth 100000 in
set_option maxHeartbeats 4000000 in
theorem rPut_in {w : World} {pv : Value} {n : Nat} {ps : List (Int × Int)} (h : RowP w pv n ps) (hn : n ≤ 50000) (room a v : Int) (hf : fits room ps a = true) :
    Calls Try.prog 59 #[.agg #[.int .i64 room, pv], .int .i64 a, .int .u64 v] w (PutP pv w room ps a v) := by
  obtain ⟨A, c, rfl⟩ := own_form h.2
  have hn6 : n ≤ 60000 := by omega
  have hl := ents_len ps
  rw [h.1] at hl
  obtain ⟨q, hq⟩ : ∃ q, (ents ps).length = q := ⟨_, rfl⟩
  rw [hq] at hl
  obtain ⟨th, hth⟩ : ∃ th, (look (ents ps) a).isSome = th := ⟨_, rfl⟩
  have hcase : th = true ∨ (th = false ∧ (n : Int) < room) ∨ (th = false ∧ room ≤ (n : Int) ∧ (q : Int) < room) := by
    unfold fits at hf
    rw [hth, hq] at hf
    cases th with
    | true => exact .inl rfl
    | false =>
      simp only [Bool.false_or, decide_eq_true_eq] at hf
      by_cases hnr : (n : Int) < room
      · exact .inr (.inl ⟨rfl, hnr⟩)
      · exact .inr (.inr ⟨rfl, by omega, hf⟩)
  obtain ⟨v0, hv0⟩ : ∃ v0, getV ps a = .tuple #[.int .u64 v0, .bool th] := ⟨(look (ents ps) a).getD 0, by unfold getV; rw [hth]⟩
  have HGV := Lib.hid hv0
  have HQ := Lib.hid hq
  have HE : Hid (putErr room ps a = 0) := Lib.hid (by unfold putErr; rw [hf]; rfl)
  have HPS : Hid (putS room ps (a, v) = ps ++ [(a, v)]) := Lib.hid (by unfold putS; rw [hf]; rfl)
  have HK2 : Hid (Kept (fun _ => False) w ((w.alloc (.cells #[.int .i64 room, .slice A n c] 80)).alloc (.cells #[.int .i64 0, .slice none 0 0] 80))) := Lib.hid (((Kept.refl _ w).alloc _).alloc _)
  have HP2 := Lib.hid (h.keep HK2.out)
  have HA2 : Hid (Blk ((w.alloc (.cells #[.int .i64 room, .slice A n c] 80)).alloc (.cells #[.int .i64 0, .slice none 0 0] 80)) w.heap.size 80 #[.int .i64 room, .slice A n c]) := Lib.hid ((Blk.new _ _ _).alloc _)
  have HZ2 : Hid (Blk ((w.alloc (.cells #[.int .i64 room, .slice A n c] 80)).alloc (.cells #[.int .i64 0, .slice none 0 0] 80)) (w.heap.size + 1) 80 #[.int .i64 0, .slice none 0 0]) := Lib.hid (Blk.new' _ _ _ _ (by simp))
  clear h hf hth hv0 hq
  obtain ⟨i0, hi0, hz0, hz1, hz2⟩ := info_parts' infoRe
  go_enter Try.func59, Try.ntmps59
  go_upto_if 33 with ((go_at_call 63; (refine (rGet_calls HP2.out hn6 room a).mono ?_); rw [HGV.out]; rintro e w3 ⟨rfl, hk⟩; have HK3 := Lib.hid (HK2.out.trans hk); have HP3 := Lib.hid (HP2.out.keep hk); have HA3 := Lib.hid (hk.blk HA2.out (fun h => h)); have HZ3 := Lib.hid (hk.blk HZ2.out (fun h => h)); have c0 : w3.cell? ⟨w.heap.size, 0, none⟩ = some (.int .i64 room) := HA3.out.cell 0; have c1 : w3.cell? ⟨w.heap.size, 1, none⟩ = some (.slice A n c) := HA3.out.cell 1; clear hk))
  go_cut [33] (fun bb wx => bb = .bool false ∧ RowP wx (.slice A n c) n ps ∧ Blk wx w.heap.size 80 #[.int .i64 room, .slice A n c] ∧ Blk wx (w.heap.size + 1) 80 #[.int .i64 0, .slice none 0 0] ∧ Kept (fun _ => False) w wx)
  case first =>
    rcases hcase with rfl | ⟨rfl, hnr⟩ | ⟨rfl, hnr, hqr⟩
    · go_wp2_with fail
      go_quiet (fail)
      go_wp2_with fail
      go_meet
      exact ⟨rfl, HP3.out.keep ((Kept.refl _ _).drewN _), HA3.out.drewN _, HZ3.out.drewN _, HK3.out.drewN _⟩
    · have hd : decide (room ≤ (n : Int)) = false := decide_eq_false (by omega)
      go_wp2_with fail
      go_quiet (fail)
      go_wp2_with fail
      go_meet
      exact ⟨rfl, HP3.out.keep ((Kept.refl _ _).drewN _), HA3.out.drewN _, HZ3.out.drewN _, HK3.out.drewN _⟩
    · go_wp2_with fail
      clear c0 c1
      have S3 : Hid (w3.drew.cell? ⟨w.heap.size, 0, none⟩ = some (.int .i64 room) ∧ w3.drew.cell? ⟨w.heap.size, 1, none⟩ = some (.slice A n c)) := Lib.hid ⟨HA3.out.drew.cell 0, HA3.out.drew.cell 1⟩
      go_region_held3 (fun w' => w'.cell? ⟨w.heap.size, 0, none⟩ = some (.int .i64 room) ∧ w'.cell? ⟨w.heap.size, 1, none⟩ = some (.slice A n c))
        (with_reducible (first | exact S4.out | exact S3.out))
        ((go_at_call 48; (refine (rAll_calls (HP3.out.keep (Kept.refl _ _).drew) hn6 room).mono ?_); rintro e w4 ⟨va, rfl, ho, _, hk⟩; obtain ⟨VA, VC, rfl⟩ := own_form ho; rw [HQ.out]; have HK4 := Lib.hid (HK3.out.drew.trans hk); have HP4 := Lib.hid ((HP3.out.keep (Kept.refl _ _).drew).keep hk); have HA4 := Lib.hid (hk.blk HA3.out.drew (fun h => h)); have HZ4 := Lib.hid (hk.blk HZ3.out.drew (fun h => h)); have S4 : Hid (w4.cell? ⟨w.heap.size, 0, none⟩ = some (.int .i64 room) ∧ w4.cell? ⟨w.heap.size, 1, none⟩ = some (.slice A n c)) := Lib.hid ⟨HA4.out.cell 0, HA4.out.cell 1⟩; clear hk ho))
      go_wp2_with fail
      go_meet
      exact ⟨by rw [decide_eq_false (by omega)], HP4.out, HA4.out, HZ4.out, HK4.out⟩
  case rest =>
    obtain ⟨rfl, hPc, hAc, hZc, hKc⟩ := hcut
    have HPc := Lib.hid hPc
    have HAc := Lib.hid hAc
    have HZc := Lib.hid hZc
    have HKc := Lib.hid hKc
    clear hPc hAc hZc hKc c0 c1
    clear hcase HK2 HP2 HA2 HZ2 HK3 HP3 HA3 HZ3
    have hb1 : n ≤ maxLen := by unfold maxLen; omega
    have hb2 : n * 16 ≤ 140737488355328 := by omega
    have hb3 : n + 1 ≤ maxLen := by unfold maxLen; omega
    have hb4 : (n + 1) * 16 ≤ 140737488355328 := by omega
    have hone : ∀ u ∈ [Value.int .i64 a, .int .u64 v], u.oneCell' = true := by simp [Value.oneCell']
    have HSa : Hid (∀ W : World, Kept (fun _ => False) wc W → W.cell? ⟨w.heap.size, 0, none⟩ = some (.int .i64 room) ∧ W.cell? ⟨w.heap.size, 1, none⟩ = some (.slice A n c)) := Lib.hid (fun W k => ⟨(k.blk HAc.out (fun h => h)).cell 0, (k.blk HAc.out (fun h => h)).cell 1⟩)
    have HSb : Hid (∀ (W : World) (u0 u1 : Value), Kept (fun _ => False) wc W → ((W.setCell ⟨w.heap.size + 1, 0, none⟩ u0).setCell ⟨w.heap.size + 1, 1, none⟩ u1).cell? ⟨w.heap.size, 0, none⟩ = some (.int .i64 room) ∧ ((W.setCell ⟨w.heap.size + 1, 0, none⟩ u0).setCell ⟨w.heap.size + 1, 1, none⟩ u1).cell? ⟨w.heap.size, 1, none⟩ = some (.slice A n c)) :=
      Lib.hid (fun W u0 u1 k => by
        have hb := (((k.blk HAc.out (fun h => h)).far (p := ⟨w.heap.size + 1, 0, none⟩) (by show w.heap.size ≠ w.heap.size + 1; omega) u0).far (p := ⟨w.heap.size + 1, 1, none⟩) (by show w.heap.size ≠ w.heap.size + 1; omega) u1)
        exact ⟨hb.cell 0, hb.cell 1⟩)
    have s1 : ∀ o : Obj, wc.heap.size + 1 = (wc.alloc o).heap.size := fun o => by simp
    have HS1 := Lib.hid s1
    clear s1
    have HE0 := Lib.hid (HSa.out _ (Kept.refl _ _).drew)
    have HE1 := Lib.hid (fun z : Obj => HSa.out _ ((Kept.refl _ _).alloc z).drew)
    have HE2 := Lib.hid (fun z z' : Obj => HSa.out _ (((Kept.refl _ _).alloc z).alloc z').drew)
    have HE5 := Lib.hid (fun (W : World) (z : Obj) (hk : Kept (fun _ => False) wc W) => HSa.out _ (hk.alloc z))
    go_wp2_with fail
    rcases A with _ | ⟨eb, eo, es⟩
    · have hte0 : n = 0 ∧ c = 0 := by
        rcases HPc.out.2.2 with ⟨hv, h0⟩ | ⟨g, cap, cur, hv, _⟩
        · simp at hv; exact ⟨h0, hv.2⟩
        · simp at hv
      obtain ⟨rfl, rfl⟩ := hte0
      have hps : ps = [] := List.eq_nil_of_length_eq_zero HPc.out.1
      have hc1 : 0 + 1 ≤ maxLen := by unfold maxLen; omega
      have hc2 : (0 + 1) * 16 ≤ 140737488355328 := by omega
      have HPS0 := Lib.hid hps
      clear hps
      go_region_held3 (fun W => W.cell? ⟨w.heap.size, 0, none⟩ = some (.int .i64 room) ∧ W.cell? ⟨w.heap.size, 1, none⟩ = some (.slice none 0 0))
        ((first | with_reducible exact HE0.out | with_reducible exact HE1.out _ | with_reducible exact HE2.out _ _ | with_reducible exact HSa.out _ K5 | with_reducible exact HSb.out _ _ _ K5))
        ((first
          | (refine step_append_nil _ rfl (.tmp 37) (.tmp 39) 78 rfl 129 i0 Try.underlying78 hi0 _ 0 0 0 rfl rfl (Nat.le_refl _) ?_)
          | (refine step_append_at _ rfl (.tmp 40) (.tmp 44) 78 rfl 0 129 i0 _ 2 16 Try.underlying78 hi0 hz0 hz1 hz2 rfl (by decide) (.slice (some ⟨_, 0, none⟩) 0 0) 0 [] rfl ?_ ⟨_, 0, none⟩ 1 1 [.int .i64 a, .int .u64 v] rfl rfl ?_ hone hc1 hc2 (Nat.zero_le _) ?_; (first | (with_reducible exact own8ab wc _) | (with_reducible exact own8c wc _ _ (HS1.out _))); (first | (with_reducible exact news8ab wc _ a v _ (HS1.out _)) | (with_reducible exact news8c wc _ a v)); intro EA5 ec5 w5 hown5 hg5 hat5; (first | (have K5 := grown_fresh (((Kept.refl _ wc).alloc _).alloc _).drew hg5 (own_z (Nat.le_refl _)); have V5 := fresh_at (((Kept.refl _ wc).alloc _).alloc _).drew (own_z (Nat.le_refl _)) hat5) | (have K5 := grown_fresh (((Kept.refl _ wc).alloc _).alloc _).drew hg5 (own_z (Nat.le_succ _)); have V5 := fresh_at (((Kept.refl _ wc).alloc _).alloc _).drew (own_z (Nat.le_succ _)) hat5)); have b2 := K5.blk HZc.out (fun h => h); have m0 : w5.cell? ⟨w.heap.size + 1, 0, none⟩ = some (.int .i64 0) := b2.cell 0; have m1 : w5.cell? ⟨w.heap.size + 1, 1, none⟩ = some (.slice none 0 0) := b2.cell 1; have q0 := b2.frozen 0; have q1 := b2.frozen 1)))
      all_goals
        go_wp2_with fail
        have HPn : RowP w5 (.slice EA5 (0 + 1) ec5) (0 + 1) (ps ++ [(a, v)]) := ⟨by rw [HPS0.out]; rfl, by rw [HPS0.out]; exact hown5⟩
        exact bodyPost_ret (v := .tuple #[.agg #[.int .i64 room, .slice EA5 (0 + 1) ec5], .int .i64 0]) (results_cell_slot (q := 7) rfl _ _ (w.heap.size + 1) 80 #[.int .i64 room, .slice EA5 (0 + 1) ec5] (0, 0) _ rfl ((b2.set_ 0 _).set_ 1 _) Try.underlying80 rfl (by kernel_rfl)) rfl ⟨_, _, by rw [HE.out], by rw [HPS.out]; exact HPn.keep2 b2, ((HKc.out.trans K5).setCell (.inr (by show w.heap.size ≤ w.heap.size + 1; omega)) _).setCell (.inr (by show w.heap.size ≤ w.heap.size + 1; omega)) _, fun z e => .inr (Nat.le_trans HKc.out.size (V5 z e))⟩
    · have hge : eo = 0 ∧ es = none := by
        rcases HPc.out.2.2 with ⟨hv, h0⟩ | ⟨g, cap, cur, hv, _⟩
        · simp at hv
        · simp only [Value.slice.injEq, Option.some.injEq, Addr.mk.injEq] at hv
          exact ⟨hv.1.2.1, hv.1.2.2⟩
      obtain ⟨rfl, rfl⟩ := hge
      have hE : (entL ps).length = n * 2 := by rw [entL_length, HPc.out.1]
      have hF := entL_one ps
      have HN1 := Lib.hid (fun z : Obj => ((((Kept.refl (fun _ => False) wc).alloc z).drew).own HPc.out.2 (fun _ _ h => h)).cells (g := eb) rfl)
      have HN2 := Lib.hid (fun z z' : Obj => (((((Kept.refl (fun _ => False) wc).alloc z).alloc z').drew).own HPc.out.2 (fun _ _ h => h)).cells (g := eb) rfl)
      go_region_held3 (fun W => W.cell? ⟨w.heap.size, 0, none⟩ = some (.int .i64 room) ∧ W.cell? ⟨w.heap.size, 1, none⟩ = some (.slice (some ⟨eb, 0, none⟩) n c))
        ((first | with_reducible exact HE0.out | with_reducible exact HE1.out _ | with_reducible exact HE2.out _ _ | with_reducible exact HSa.out _ K5 | with_reducible exact HE5.out _ _ K5 | with_reducible exact HSa.out _ K6 | with_reducible exact HSb.out _ _ _ K6))
        ((first
          | (refine step_append_new _ rfl (.tmp 37) (.tmp 39) 78 rfl 129 i0 _ 2 16 Try.underlying78 hi0 hz0 hz1 hz2 rfl (by decide) _ rfl ?_ ⟨eb, 0, none⟩ n c (entL ps) rfl hE ?_ hF hb1 hb2 ?_; (first | (with_reducible exact own8a wc) | (with_reducible exact own8ab wc _) | (with_reducible exact own8c wc _ _ (HS1.out _))); (first | (with_reducible exact HN1.out _) | (with_reducible exact HN2.out _ _)); intro EA5 ec5 w5 hown5 hg5 hat5; (first | (have K5 := grown_fresh ((Kept.refl _ wc).alloc _).drew hg5 (own_z (Nat.le_refl _)); have V5 := fresh_at ((Kept.refl _ wc).alloc _).drew (own_z (Nat.le_refl _)) hat5) | (have K5 := grown_fresh (((Kept.refl _ wc).alloc _).alloc _).drew hg5 (own_z (Nat.le_refl _)); have V5 := fresh_at (((Kept.refl _ wc).alloc _).alloc _).drew (own_z (Nat.le_refl _)) hat5) | (have K5 := grown_fresh (((Kept.refl _ wc).alloc _).alloc _).drew hg5 (own_z (Nat.le_succ _)); have V5 := fresh_at (((Kept.refl _ wc).alloc _).alloc _).drew (own_z (Nat.le_succ _)) hat5)))
          | (refine step_append_at _ rfl (.tmp 40) (.tmp 44) 78 rfl 0 129 i0 _ 2 16 Try.underlying78 hi0 hz0 hz1 hz2 rfl (by decide) (.slice EA5 n ec5) n (entL ps) rfl ?_ ⟨_, 0, none⟩ 1 1 [.int .i64 a, .int .u64 v] rfl rfl ?_ hone hb3 hb4 (Nat.zero_le _) ?_; (first | (with_reducible exact hown5) | (with_reducible exact hown5.alloc _)); (first | (with_reducible exact news8d w5 a v) | (with_reducible exact news_grown hg5 (ne_ab _) (news8ab wc _ a v _ (HS1.out _))) | (with_reducible exact news_grown hg5 (ne_c _) (news8c wc _ a v))); intro EA6 ec6 w6 hown6 hg6 hat6; (first | (have K6 := grown_fresh K5 hg6 V5; have V6 := fresh_at K5 V5 hat6) | (have K6 := grown_fresh (K5.alloc _) hg6 V5; have V6 := fresh_at (K5.alloc _) V5 hat6)); have b2 := K6.blk HZc.out (fun h => h); have m0 : w6.cell? ⟨w.heap.size + 1, 0, none⟩ = some (.int .i64 0) := b2.cell 0; have m1 : w6.cell? ⟨w.heap.size + 1, 1, none⟩ = some (.slice none 0 0) := b2.cell 1; have q0 := b2.frozen 0; have q1 := b2.frozen 1)))
      all_goals
        go_wp2_with fail
        have HPn : RowP w6 (.slice EA6 (n + 1) ec6) (n + 1) (ps ++ [(a, v)]) := ⟨by rw [List.length_append, HPc.out.1]; rfl, by rw [entL_snoc]; exact hown6⟩
        exact bodyPost_ret (v := .tuple #[.agg #[.int .i64 room, .slice EA6 (n + 1) ec6], .int .i64 0]) (results_cell_slot (q := 7) rfl _ _ (w.heap.size + 1) 80 #[.int .i64 room, .slice EA6 (n + 1) ec6] (0, 0) _ rfl ((b2.set_ 0 _).set_ 1 _) Try.underlying80 rfl (by kernel_rfl)) rfl ⟨_, _, by rw [HE.out], by rw [HPS.out]; exact HPn.keep2 b2, ((HKc.out.trans K6).setCell (.inr (by show w.heap.size ≤ w.heap.size + 1; omega)) _).setCell (.inr (by show w.heap.size ≤ w.heap.size + 1; omega)) _, fun z e => .inr (Nat.le_trans HKc.out.size (V6 z e))⟩
end Go.Proofs.Ytebffkoonbkhnaa
