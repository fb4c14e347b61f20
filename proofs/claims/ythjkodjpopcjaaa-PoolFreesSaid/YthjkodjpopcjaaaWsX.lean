/- Layer 8 (wset): the law's 'all' as a whole; undo; Back. -/
/- Layer 8 (wset): Back. -/
/- Layer 8 (wset): Back, all of it. -/
/- Layer 8 (wset): a set of the law's own. -/
/- Law 08's alive. -/
import Derived.Test.YthjkodjpopcjaaaWsS
import Derived.Deep.QuietTactic
import Derived.BigQuiet
import Derived.Deep.RegionHeld3
import Derived.Deep.RegionWith
import Derived.Deep.DeepCutAuto
namespace Go.Proofs.Ythjkodjpopcjaaa
open Go.RowKit Go.Maps

section
variable {w : World} {b : Nat} {room : Int} {ps : List (Int × Int)} {n : Nat} {F : Nat → Prop}
end

/-- The last Put undone. -/
theorem undo_math (ps : List (Int × Int)) (p : Int × Int) :
    (∃ i old, idx (ents ps) p.1 = some i ∧ (ents ps)[i]? = some (p.1, old) ∧ ents (ps ++ [p]) = (ents ps).set i p ∧ chs (ps ++ [p]) = chs ps ++ [⟨i, old, false⟩]) ∨
    (idx (ents ps) p.1 = none ∧ ents (ps ++ [p]) = ents ps ++ [p] ∧ chs (ps ++ [p]) = chs ps ++ [⟨0, 0, true⟩]) := by
  cases h : idx (ents ps) p.1 with
  | some i =>
    obtain ⟨old, h1, h2⟩ := idx_some h
    exact .inl ⟨i, old, rfl, h1, ents_old h, by rw [chs_old h, h2]; rfl⟩
  | none => exact .inr ⟨rfl, ents_new h, chs_new h⟩

/-- A set in memory behind an undo. -/
def UndoF (w w' : World) (b mb : Nat) (ev cv : Value) (room : Int) (es ks : List (Int × Int)) (cs : List ChD) (n : Nat) : Prop :=
  ∃ ev', SetC w' b mb ev' cv room es ks cs n ∧ Kept (Foot b mb ev cv) w w' ∧ ∀ x, Foot b mb ev' cv x → Foot b mb ev cv x

set_option maxRecDepth 100000 in
set_option maxHeartbeats 4000000 in
theorem undo_old {w : World} {b mb : Nat} {ev cv : Value} {room : Int} {es ks : List (Int × Int)} {cs : List ChD} {n : Nat} (M : SetC w b mb ev cv room es ks cs n) (i : Nat) (a v old : Int) (hv : es[i]? = some (a, v)) :
    Calls Try.prog 78 #[.pointer (some ⟨b, 0, none⟩), .agg #[.int .i64 (i : Int), .int .u64 old, .bool false]] w fun e w' => e = .returned (.tuple #[]) ∧ UndoF w w' b mb ev cv room (es.set i (a, old)) ks cs n := by
  have hil : i < es.length := (List.getElem?_eq_some_iff.1 hv).1
  obtain ⟨g, c, rfl, hc⟩ := own_some M.ens (by omega)
  obtain ⟨m, hm⟩ : ∃ m, es.length = m := ⟨_, rfl⟩
  have M1 := M.keep ((Kept.refl _ w).alloc (.cells #[.int .i64 (i : Int), .int .u64 old, .bool false] 146))
  have c1 : (w.alloc (.cells #[.int .i64 (i : Int), .int .u64 old, .bool false] 146)).cell? ⟨b, 1, none⟩ = some (.slice (some ⟨g, 0, none⟩) m c) := by rw [← hm]; exact M1.blk.cell 1
  have hval : (w.alloc (.cells #[.int .i64 (i : Int), .int .u64 old, .bool false] 146)).cell? ⟨g, i * 2 + 1, none⟩ = some (.int .u64 v) := by rw [M1.ens.cellAt (i * 2 + 1) (by omega)]; exact (entL_at es i _ hv).2
  have hf := M1.ens.frozenAt (i * 2 + 1)
  have hil' : (i : Int) < m := by omega
  have hi0' : (0 : Int) ≤ i := by omega
  have HR := Lib.hid (M1.turn (v' := old) hv)
  have HK := Lib.hid (((Kept.refl (Foot b mb (.slice (some ⟨g, 0, none⟩) es.length c) cv) w).alloc (.cells #[.int .i64 (i : Int), .int .u64 old, .bool false] 146)).setCell (p := ⟨g, i * 2 + 1, none⟩) (.inl (.inr (.inr (.inl rfl)))) (.int .u64 old))
  clear M M1 hv hm hil
  go_enter Try.func78, Try.ntmps78
  go_wp2_with fail
  go_region
  go_wp2_with fail
  exact bodyPost_ret (v := .tuple #[]) (by simp [results, Try.results78, go_sem]) rfl ⟨rfl, _, HR.out.keep ((Kept.refl _ _).drew), HK.out.drew, fun _ h => h⟩

theorem SetC.cut_en {w : World} {b mb g c : Nat} {cv : Value} {room : Int} {es ks : List (Int × Int)} {e : Int × Int} {cs : List ChD} {n : Nat} (M : SetC w b mb (.slice (some ⟨g, 0, none⟩) (es.length + 1) c) cv room (es ++ [e]) ks cs n) :
    SetC (w.setCell ⟨b, 1, none⟩ (.slice (some ⟨g, 0, none⟩) es.length c)) b mb (.slice (some ⟨g, 0, none⟩) es.length c) cv room es ks cs n := by
  have he := M.ens
  rw [List.length_append] at he
  have hc := own_cut he (show es.length ≤ es.length + 1 by omega)
  rw [entL_take, List.take_left' rfl] at hc
  exact M.field hc M.chg rfl
set_option maxRecDepth 100000 in
set_option maxHeartbeats 4000000 in
theorem undo_new {w : World} {b mb : Nat} {ev cv : Value} {room : Int} {es : List (Int × Int)} {a v : Int} {cs : List ChD} {n : Nat} (M : SetC w b mb ev cv room (es ++ [(a, v)]) (es ++ [(a, v)]) cs n) (ha : I64 a) (hi : idx es a = none) (hl : es.length ≤ 70000) (p q : Int) :
    Calls Try.prog 78 #[.pointer (some ⟨b, 0, none⟩), .agg #[.int .i64 p, .int .u64 q, .bool true]] w fun e w' => e = .returned (.tuple #[]) ∧ UndoF w w' b mb ev cv room es es cs n := by
  obtain ⟨g, c, rfl, hc⟩ := own_some M.ens (by simp)
  rw [List.length_append] at hc M ⊢
  simp only [List.length_cons, List.length_nil, Nat.zero_add] at hc M ⊢
  obtain ⟨m, hm⟩ : ∃ m, es.length = m := ⟨_, rfl⟩
  have M1 := M.keep ((Kept.refl _ w).alloc (.cells #[.int .i64 p, .int .u64 q, .bool true] 146))
  have HMM := Lib.hid hm
  have HK0 := Lib.hid ((Kept.refl (fun _ => False) w).alloc (.cells #[.int .i64 p, .int .u64 q, .bool true] 146))
  have hfr : ∃ W, w.alloc (.cells #[.int .i64 p, .int .u64 q, .bool true] 146) = W := ⟨_, rfl⟩
  have c1 : (w.alloc (.cells #[.int .i64 p, .int .u64 q, .bool true] 146)).cell? ⟨b, 1, none⟩ = some (.slice (some ⟨g, 0, none⟩) (m + 1) c) := by rw [← hm]; exact M1.blk.cell 1
  have HM1 := Lib.hid M1
  have HI := Lib.hid hi
  have hml : m ≤ 70000 := by omega
  clear M M1 hi hm hl
  go_enter Try.func78, Try.ntmps78
  go_upto_region 4 with fail
  obtain ⟨W, hW⟩ := hfr
  rw [hW] at HM1 HK0 ⊢
  clear hW c1
  have q1 : W.cell? ⟨b, 1, none⟩ = some (.slice (some ⟨g, 0, none⟩) (m + 1) c) := by rw [← HMM.out]; exact HM1.out.blk.cell 1
  have q2 : W.cell? ⟨b, 2, none⟩ = some (.map (some mb)) := HM1.out.blk.cell 2
  have q3 : W.cell? ⟨g, m * 2, none⟩ = some (.int .i64 a) := by
    have h := HM1.out.ens
    rw [List.length_append] at h
    rw [← HMM.out]
    exact (ent_cells h (k := es.length) (e := (a, v)) (by simp) (by simp)).1
  have b1 : (0 : Int) ≤ (m : Int) := by omega
  have b2 : (m : Int) < ((m + 1 : Nat) : Int) := by omega
  have b3 : (m : Int) < (m : Int) + 1 := by omega
  go_still_tail 12, (by kernel_rfl)
  repeat (first | still_step | (refine wpStill_step (fun K hK => ?_); go_simp; simp only [q1, q2, q3, Result.andThen]; refine ⟨rfl, hK _ ?_⟩; clear hK K))
  change wpList _ _ _ _ _ W.drew
  obtain ⟨D, ⟨ee, ck, h1, h2⟩, hIs, hD⟩ := HM1.out.map
  have hown : W.drew.ownsMap Try.prog 3 (plainElem Try.prog 3) mb n D := ⟨ee, ck, h1, h2⟩
  have HIs := Lib.hid hIs
  have HD := Lib.hid hD
  have hkey := keyOf_int_mk (P := Try.prog) Try.underlying3 ha.wf
  refine wpList_delete_own W.drew rfl _ _ 103 3 rfl 3 lawInt Try.underlying103 _ mb n D rfl hown _ _ rfl hkey ?_
  intro w3 hown3 hturn
  have HK3 : Hid (Kept (fun k => k = mb) W w3) := Lib.hid ((Kept.grown hturn.grown).of_drew.mono (fun k _ h => Option.some.inj h))
  have HM3 := Lib.hid (HM1.out.table HK3.out (IMap.del HIs.out a v HI.out HD.out hown3))
  have hcm : (m : Int) ≤ c := by have := HMM.out; omega
  have hcn : m ≤ c := by omega
  clear hown hown3 hturn hIs hD hkey h1 h2 q1 q2 q3 hc
  have r1 : w3.cell? ⟨b, 1, none⟩ = some (.slice (some ⟨g, 0, none⟩) (m + 1) c) := by rw [← HMM.out]; exact HM3.out.blk.cell 1
  have f1 := HM3.out.blk.frozen 1
  have HR : Hid (SetC (w3.setCell ⟨b, 1, none⟩ (.slice (some ⟨g, 0, none⟩) m c)) b mb (.slice (some ⟨g, 0, none⟩) m c) cv room es es cs n) := Lib.hid (by rw [← HMM.out]; exact SetC.cut_en HM3.out)
  go_wp2_with fail
  go_end0
  refine ⟨rfl, _, HR.out, ?_, ?_⟩
  · refine (HK0.out.mono (T := Foot b mb (.slice (some ⟨g, 0, none⟩) (es.length + 1) c) cv) (fun _ _ h => h.elim)).trans' ((HK3.out.mono (T := Foot b mb (.slice (some ⟨g, 0, none⟩) (es.length + 1) c) cv) (fun _ _ h => .inr (.inl h))).setCell (p := ⟨b, 1, none⟩) (.inl (.inl rfl)) _) (fun _ _ h => h)
  · rintro x (h | h | h | h)
    · exact .inl h
    · exact .inr (.inl h)
    · exact .inr (.inr (.inl h))
    · exact .inr (.inr (.inr h))
end Go.Proofs.Ythjkodjpopcjaaa

namespace Go.Proofs.Ythjkodjpopcjaaa
open Go.RowKit Go.Maps

def Wf (ps : List (Int × Int)) : Prop := ∀ p ∈ ps, I64 p.1
theorem Wf.take {ps : List (Int × Int)} (h : Wf ps) (k : Nat) : Wf (ps.take k) := fun p hp => h p (List.mem_of_mem_take hp)
theorem Wf.putS {room : Int} {ps : List (Int × Int)} (h : Wf ps) {p : Int × Int} (hp : I64 p.1) : Wf (putS room ps p) := by
  unfold Go.Proofs.Ythjkodjpopcjaaa.putS
  split
  · intro q hq
    rcases List.mem_append.1 hq with hq | hq
    · exact h q hq
    · rw [List.mem_singleton.1 hq]; exact hp
  · exact h

theorem SetC.cut_ch {w : World} {b mb g c : Nat} {ev : Value} {room : Int} {es ks : List (Int × Int)} {d : ChD} {cs : List ChD} {n : Nat} (M : SetC w b mb ev (.slice (some ⟨g, 0, none⟩) (cs.length + 1) c) room es ks (cs ++ [d]) n) :
    SetC (w.setCell ⟨b, 3, none⟩ (.slice (some ⟨g, 0, none⟩) cs.length c)) b mb ev (.slice (some ⟨g, 0, none⟩) cs.length c) room es ks cs n := by
  have he := M.chg
  rw [List.length_append] at he
  have hc := own_cut he (show cs.length ≤ cs.length + 1 by omega)
  rw [chL_take, List.take_left' rfl] at hc
  exact M.field M.ens hc rfl
theorem ch_cells {w : World} {g c n : Nat} {cs : List ChD} (h : w.ownsRow 0 146 3 (.slice (some ⟨g, 0, none⟩) n c) n (chL cs)) {k : Nat} {d : ChD} (he : cs[k]? = some d) (hk : k < n) :
    w.cell? ⟨g, k * 3, none⟩ = some (.int .i64 (d.place : Int)) ∧ w.cell? ⟨g, k * 3 + 1, none⟩ = some (.int .u64 d.was) ∧ w.cell? ⟨g, k * 3 + 2, none⟩ = some (.bool d.fresh) :=
  ⟨(h.cellAt (k * 3) (by omega)).trans (chL_at cs k d he).1, (h.cellAt (k * 3 + 1) (by omega)).trans (chL_at cs k d he).2.1, (h.cellAt (k * 3 + 2) (by omega)).trans (chL_at cs k d he).2.2⟩

/-- The last Put is undone: the set behind it, its changes not cut yet. -/
theorem undo_last {w : World} {b mb : Nat} {ev cv : Value} {room : Int} {q : List (Int × Int)} {p : Int × Int} {n : Nat} (hp : I64 p.1) (hl : q.length ≤ 60000) (M : SetC w b mb ev cv room (ents (q ++ [p])) (ents (q ++ [p])) (chs (q ++ [p])) n) :
    ∃ d : ChD, chs (q ++ [p]) = chs q ++ [d] ∧ Calls Try.prog 78 #[.pointer (some ⟨b, 0, none⟩), .agg #[.int .i64 (d.place : Int), .int .u64 d.was, .bool d.fresh]] w fun e w' => e = .returned (.tuple #[]) ∧ UndoF w w' b mb ev cv room (ents q) (ents q) (chs q ++ [d]) n := by
  have hle := ents_len q
  rcases undo_math q p with ⟨i, old, hi, h1, he, hc⟩ | ⟨hi, he, hc⟩
  · refine ⟨⟨i, old, false⟩, hc, ?_⟩
    have hil : i < (ents q).length := (List.getElem?_eq_some_iff.1 h1).1
    have h2 : (ents (q ++ [p]))[i]? = some (p.1, p.2) := by rw [he, List.getElem?_set_self hil]
    refine (undo_old M i p.1 p.2 old h2).mono fun e w' ⟨hr, ev', M', K', F'⟩ => ⟨hr, ev', ?_, K', F'⟩
    have h3 : (ents (q ++ [p])).set i (p.1, old) = ents q := by rw [he]; exact set_back h1
    rw [h3, hc] at M'
    exact ⟨M'.blk, M'.map.same (fun x => by rw [he]; exact (idx_set _ p.2 p.1 i hi x).symm), M'.ens, M'.chg⟩
  · refine ⟨⟨0, 0, true⟩, hc, ?_⟩
    rw [he] at M
    rw [← hc]
    exact undo_new M hp hi (by omega) 0 0

section
variable {w : World} {b : Nat} {room : Int} {ps : List (Int × Int)} {n : Nat} {F : Nat → Prop}
def BackR (w : World) (b : Nat) (room : Int) (ps : List (Int × Int)) (n : Nat) (F : Nat → Prop) (mark : Int) (e : Ending) (w' : World) : Prop :=
  e = .returned (.bool (decide (0 ≤ mark ∧ mark ≤ ps.length))) ∧ ISet w' b room (if 0 ≤ mark ∧ mark ≤ ps.length then ps.take mark.toNat else ps) n F ∧ Kept F w w'
def BRel (w : World) (b : Nat) (room : Int) (ps : List (Int × Int)) (n : Nat) (F : Nat → Prop) (mark : Nat) (wr : World) : Prop :=
  ∃ (W : World) (k : Nat), W = wr ∧ mark ≤ k ∧ k ≤ ps.length ∧ ISet W b room (ps.take k) n F ∧ Kept F w W
def lenAt (b : Nat) (wr : World) : Nat := match wr.cell? ⟨b, 3, none⟩ with | some (.slice _ m _) => m | _ => 0

set_option maxRecDepth 100000 in
set_option maxHeartbeats 4000000 in
theorem back_yes (h : ISet w b room ps n F) (hw : Wf ps) (hp : ps.length ≤ 60000) (mark : Nat) (hm : mark ≤ ps.length) :
    Calls Try.prog 37 #[.pointer (some ⟨b, 0, none⟩), .int .i64 (mark : Int)] w fun e w' => e = .returned (.bool true) ∧ ISet w' b room (ps.take mark) n F ∧ Kept F w w' := by
  have HS := Lib.hid h
  have HW := Lib.hid hw
  obtain ⟨L, hL⟩ : ∃ L, ps.length = L := ⟨_, rfl⟩
  have HLL := Lib.hid hL
  obtain ⟨mb0, ev0, cv0, M0, _⟩ := h
  obtain ⟨A0, c0, rfl⟩ := own_form M0.chg
  have c3 : w.cell? ⟨b, 3, none⟩ = some (.slice A0 L c0) := by rw [← hL, ← chs_len]; exact M0.blk.cell 3
  have hmL : (mark : Int) ≤ L := by omega
  have hL6 : L ≤ 60000 := by omega
  have hd0 : decide ((mark : Int) < 0) = false := decide_eq_false (by omega)
  have hd1 : ¬ (mark : Int) < 0 := by omega
  clear hw M0 hL hm
  go_enter Try.func37, Try.ntmps37
  go_wp2_with fail
  clear c3
  go_loopw [5] (fun _ wr => BRel w b room ps n F mark wr) (fun _ wr => lenAt b wr)
  case atStart => exact ⟨_, L, rfl, by omega, by rw [HLL.out]; omega, by rw [← HLL.out, List.take_of_length_le (Nat.le_refl _)]; exact HS.out, Kept.refl _ _⟩
  case round =>
    obtain ⟨wr, k, rfl, hk1, hk2, hS, hK⟩ := hrel
    rw [HLL.out] at hk2
    obtain ⟨mb, ev, cv, M, hF⟩ := hS
    have hkl : (ps.take k).length = k := by rw [List.length_take, HLL.out]; omega
    obtain ⟨A, c, hcv⟩ := own_form M.chg
    rw [chs_len, hkl] at hcv
    have c3 : wr.cell? ⟨b, 3, none⟩ = some cv := M.blk.cell 3
    rw [hcv] at c3
    by_cases hlt : mark < k
    · obtain ⟨j, rfl⟩ : ∃ j, k = j + 1 := ⟨k - 1, by omega⟩
      have hj : j < ps.length := by rw [HLL.out]; omega
      obtain ⟨pj, ht, hpj⟩ : ∃ pj, ps.take (j + 1) = ps.take j ++ [pj] ∧ I64 pj.1 := ⟨ps[j], List.take_succ_eq_append_getElem hj, HW.out _ (List.getElem_mem hj)⟩
      rw [ht] at M hkl
      obtain ⟨d, hd, hcall⟩ := undo_last hpj (by rw [List.length_take]; omega) M
      have hjl : (chs (ps.take j)).length = j := by rw [chs_len, List.length_take]; omega
      obtain ⟨g, c', hcv', hcc⟩ := own_some M.chg (by rw [hd]; simp)
      rw [hcv, hd, List.length_append, hjl] at hcv'
      injection hcv' with hA _ hc'
      subst hA hc'
      have hown := M.chg
      rw [hd, hcv, List.length_append, hjl] at hown
      obtain ⟨d0, d1, d2⟩ := ch_cells hown (k := j) (d := d) (by rw [List.getElem?_append_right (by omega), hjl]; simp) (by simp)
      have HCall := Lib.hid hcall
      have HJ := Lib.hid hjl
      have HFF := Lib.hid hF
      have HKK := Lib.hid hK
      have HCV := Lib.hid hcv
      have HT := Lib.hid ht
      have hb1 : (0 : Int) ≤ (j : Int) := by omega
      have hb2 : (j : Int) < ((j + 1 : Nat) : Int) := by omega
      have hb3 : (j : Int) < (j : Int) + 1 := by omega
      have hml : Hid (lenAt b wr = j + 1) := Lib.hid (by unfold lenAt; rw [c3])
      obtain ⟨pl, was, fr⟩ := d
      simp only at d0 d1 d2
      have hjc : (j : Int) ≤ c := by rw [hd, List.length_append, hjl] at hcc; simp only [List.length_singleton] at hcc; omega
      have hjc1 : j ≤ c := by omega
      clear M hcall hd hjl hF hK hcv ht hkl hj hown hcc
      go_wp2_with (go_at_call 78; refine (HCall.out).mono ?_; rintro e w1 ⟨rfl, ev', M1, K1, F1⟩; have HM1 := Lib.hid M1; have HK1 := Lib.hid K1; have HF1 := Lib.hid F1; rw [HCV.out] at HM1 HK1 HF1; have e3 : w1.cell? ⟨b, 3, none⟩ = some (.slice (some ⟨g, 0, none⟩) (j + 1) c) := HM1.out.blk.cell 3; have f3 := HM1.out.blk.frozen 3; clear M1 K1 F1)
      have HC3 : Hid ((w1.setCell ⟨b, 3, none⟩ (.slice (some ⟨g, 0, none⟩) j c)).cell? ⟨b, 3, none⟩ = some (.slice (some ⟨g, 0, none⟩) j c)) := Lib.hid ((HM1.out.blk.set_ 3 _).cell 3)
      have HCut : Hid (ISet (w1.setCell ⟨b, 3, none⟩ (.slice (some ⟨g, 0, none⟩) j c)) b room (ps.take j) n F) := Lib.hid ⟨mb, ev', .slice (some ⟨g, 0, none⟩) j c, by
        have := SetC.cut_ch (cs := chs (ps.take j)) (d := ⟨pl, was, fr⟩) (by rw [HJ.out]; exact HM1.out)
        rw [HJ.out] at this
        exact this, fun x hx => HFF.out x (by rw [HCV.out]; exact HF1.out x (by rcases hx with h | h | h | h; exact .inl h; exact .inr (.inl h); exact .inr (.inr (.inl h)); exact .inr (.inr (.inr h))))⟩
      have HKC : Hid (Kept F w (w1.setCell ⟨b, 3, none⟩ (.slice (some ⟨g, 0, none⟩) j c))) := Lib.hid (HKK.out.trans' ((HK1.out).setCell (p := ⟨b, 3, none⟩) (.inl (.inl rfl)) _) (fun x _ hx => HFF.out x (by rw [HCV.out]; exact hx)))
      clear HM1 HK1 HF1
      go_wp2_with fail
      go_roundw
      case rel => first | exact ⟨_, j, rfl, by omega, by rw [HLL.out]; omega, HCut.out, HKC.out⟩ | ((repeat apply Exists.intro); exact ⟨⟨_, j, rfl, by omega, by rw [HLL.out]; omega, HCut.out, HKC.out⟩, rfl⟩)
      case measure =>
        rw [hml.out]
        unfold lenAt
        rw [HC3.out]
        exact Nat.lt_succ_self j
    · obtain rfl : k = mark := by omega
      have HR := Lib.hid (show ISet wr b room (ps.take k) n F from ⟨mb, ev, cv, M, hF⟩)
      have HKK := Lib.hid hK
      clear M hF hK hcv
      go_wp2_with fail
      go_ret
      exact ⟨rfl, HR.out, HKK.out⟩
end
end Go.Proofs.Ythjkodjpopcjaaa

namespace Go.Proofs.Ythjkodjpopcjaaa
open Go.RowKit Go.Maps

section
variable {w : World} {b : Nat} {room : Int} {ps : List (Int × Int)} {n : Nat} {F : Nat → Prop}
set_option maxRecDepth 100000 in
set_option maxHeartbeats 2000000 in
theorem back_no (h : ISet w b room ps n F) (hp : ps.length ≤ 60000) (mark : Int) (hm : mark < 0 ∨ (ps.length : Int) < mark) :
    Calls Try.prog 37 #[.pointer (some ⟨b, 0, none⟩), .int .i64 mark] w fun e w' => e = .returned (.bool false) ∧ w' = w := by
  obtain ⟨mb0, ev0, cv0, M0, _⟩ := h
  obtain ⟨A0, c0, rfl⟩ := own_form M0.chg
  obtain ⟨L, hL⟩ : ∃ L, ps.length = L := ⟨_, rfl⟩
  have c3 : w.cell? ⟨b, 3, none⟩ = some (.slice A0 L c0) := by rw [← hL, ← chs_len]; exact M0.blk.cell 3
  rw [hL] at hm hp
  clear hL M0
  rcases Int.lt_or_le mark 0 with h0 | h0
  · have hd0 : decide (mark < 0) = true := decide_eq_true h0
    clear hm
    go_enter Try.func37, Try.ntmps37
    go_wp2_with fail
    go_ret
    exact ⟨rfl, rfl⟩
  · have hd0 : decide (mark < 0) = false := decide_eq_false (by omega)
    have hd1 : ¬ mark < 0 := by omega
    have hm1 : (L : Int) < mark := by omega
    clear hm
    go_enter Try.func37, Try.ntmps37
    go_wp2_with fail
    go_ret
    exact ⟨rfl, rfl⟩

theorem back_calls (h : ISet w b room ps n F) (hw : Wf ps) (hp : ps.length ≤ 60000) (mark : Int) :
    Calls Try.prog 37 #[.pointer (some ⟨b, 0, none⟩), .int .i64 mark] w (BackR w b room ps n F mark) := by
  by_cases hm : 0 ≤ mark ∧ mark ≤ ps.length
  · obtain ⟨m, rfl⟩ : ∃ m : Nat, mark = m := ⟨mark.toNat, by omega⟩
    refine (back_yes h hw hp m (by omega)).mono fun e w' ⟨h1, h2, h3⟩ => ?_
    unfold BackR
    rw [if_pos hm, decide_eq_true hm]
    exact ⟨h1, by simpa using h2, h3⟩
  · refine (back_no h hp mark (by omega)).mono fun e w' ⟨h1, h2⟩ => ?_
    unfold BackR
    rw [if_neg hm, decide_eq_false hm, h2]
    exact ⟨h1, h, Kept.refl _ _⟩
end
end Go.Proofs.Ythjkodjpopcjaaa

namespace Go.Proofs.Ythjkodjpopcjaaa
open Go.RowKit Go.Maps

/-- A set made since the world w0. -/
def SG (w0 w : World) (b : Nat) (room : Int) (ps : List (Int × Int)) (n : Nat) : Prop := ISet w b room ps n (fun x => w0.heap.size ≤ x) ∧ Kept (fun _ => False) w0 w
section
variable {w0 w w' : World} {b : Nat} {room : Int} {ps : List (Int × Int)} {n : Nat}
theorem keptOwn (k0 : Kept (fun _ => False) w0 w) (k : Kept (fun x => w0.heap.size ≤ x) w w') : Kept (fun _ => False) w0 w' :=
  k0.trans' (k.mono (T := fun x => w0.heap.size ≤ x) (fun _ _ h => h)) (fun x hx h => by omega)
theorem SG.keep (h : SG w0 w b room ps n) (k : Kept (fun _ => False) w w') : SG w0 w' b room ps n := ⟨h.1.keep k, h.2.trans k⟩
theorem SG.new (k : Kept (fun _ => False) w0 w) (x : Int) : Calls Try.prog 26 #[.int .i64 x] w fun e w' => ∃ b, e = .returned (.pointer (some ⟨b, 0, none⟩)) ∧ SG w0 w' b (roomOf x) [] 0 :=
  (new_calls x w).mono fun _ _ ⟨b, h1, h2, h3⟩ => ⟨b, h1, h2.mono (fun _ _ hx => Nat.le_trans k.size hx), k.trans h3⟩
theorem SG.put (h : SG w0 w b room ps n) (a v : Int) (ha : I64 a) (hp : ps.length ≤ 60000) (hn : n ≤ 60000) :
    Calls Try.prog 77 #[.pointer (some ⟨b, 0, none⟩), .int .i64 a, .int .u64 v] w fun e w' => e = .returned (.int .i64 (putErr room ps a)) ∧ SG w0 w' b room (putS room ps (a, v)) (n + 1) :=
  (put_calls h.1 a v ha hp hn).mono fun _ _ ⟨h1, h2, h3⟩ => ⟨h1, h2.mono (fun _ _ hx => hx.elim id (fun hx => Nat.le_trans h.2.size hx)), keptOwn h.2 h3⟩
theorem SG.back (h : SG w0 w b room ps n) (hw : Wf ps) (hp : ps.length ≤ 60000) (mark : Int) :
    Calls Try.prog 37 #[.pointer (some ⟨b, 0, none⟩), .int .i64 mark] w fun e w' => e = .returned (.bool (decide (0 ≤ mark ∧ mark ≤ ps.length))) ∧ SG w0 w' b room (if 0 ≤ mark ∧ mark ≤ ps.length then ps.take mark.toNat else ps) n :=
  (back_calls h.1 hw hp mark).mono fun _ _ ⟨h1, h2, h3⟩ => ⟨h1, h2, keptOwn h.2 h3⟩
end
section
variable {w0 w : World} {b : Nat}
theorem al_put1 (h : SG w0 w b 2 [] 0) : Calls Try.prog 77 #[.pointer (some ⟨b, 0, none⟩), .int .i64 7, .int .u64 1] w fun e w' => e = .returned (.int .i64 0) ∧ SG w0 w' b 2 [(7, 1)] 1 := h.put 7 1 (by unfold I64; omega) (by decide) (by decide)
theorem al_put2 (h : SG w0 w b 2 [(7, 1)] 1) : Calls Try.prog 77 #[.pointer (some ⟨b, 0, none⟩), .int .i64 9, .int .u64 2] w fun e w' => e = .returned (.int .i64 0) ∧ SG w0 w' b 2 [(7, 1), (9, 2)] 2 := h.put 9 2 (by unfold I64; omega) (by decide) (by decide)
theorem al_put3 (h : SG w0 w b 2 [(7, 1), (9, 2)] 2) : Calls Try.prog 77 #[.pointer (some ⟨b, 0, none⟩), .int .i64 7, .int .u64 3] w fun e w' => e = .returned (.int .i64 0) ∧ SG w0 w' b 2 [(7, 1), (9, 2), (7, 3)] 3 := h.put 7 3 (by unfold I64; omega) (by decide) (by decide)
theorem al_put4 (h : SG w0 w b 2 [(7, 1), (9, 2), (7, 3)] 3) : Calls Try.prog 77 #[.pointer (some ⟨b, 0, none⟩), .int .i64 8, .int .u64 4] w fun e w' => e = .returned (.int .i64 6) ∧ SG w0 w' b 2 [(7, 1), (9, 2), (7, 3)] 4 := h.put 8 4 (by unfold I64; omega) (by decide) (by decide)
theorem al_get1 {n : Nat} (h : SG w0 w b 2 [(7, 1), (9, 2), (7, 3)] n) : Calls Try.prog 48 #[.pointer (some ⟨b, 0, none⟩), .int .i64 7] w fun e w' => e = .returned (.tuple #[.int .u64 3, .bool true]) ∧ w = w' := get_calls h.1 7 (by unfold I64; omega)
theorem al_get2 {n : Nat} (h : SG w0 w b 2 [(7, 1), (9, 2)] n) : Calls Try.prog 48 #[.pointer (some ⟨b, 0, none⟩), .int .i64 7] w fun e w' => e = .returned (.tuple #[.int .u64 1, .bool true]) ∧ w = w' := get_calls h.1 7 (by unfold I64; omega)
theorem wf3 : Wf [(7, 1), (9, 2), (7, 3)] := by intro p hp; simp at hp; rcases hp with rfl | rfl | rfl <;> (unfold I64; omega)
theorem wf2 : Wf [(7, 1), (9, 2)] := by intro p hp; simp at hp; rcases hp with rfl | rfl <;> (unfold I64; omega)
theorem al_back1 {n : Nat} (h : SG w0 w b 2 [(7, 1), (9, 2), (7, 3)] n) : Calls Try.prog 37 #[.pointer (some ⟨b, 0, none⟩), .int .i64 2] w fun e w' => e = .returned (.bool true) ∧ SG w0 w' b 2 [(7, 1), (9, 2)] n := h.back wf3 (by decide) 2
theorem al_back2 {n : Nat} (h : SG w0 w b 2 [(7, 1), (9, 2)] n) : Calls Try.prog 37 #[.pointer (some ⟨b, 0, none⟩), .int .i64 3] w fun e w' => e = .returned (.bool false) ∧ SG w0 w' b 2 [(7, 1), (9, 2)] n := h.back wf2 (by decide) 3
theorem al_mark {n : Nat} (h : SG w0 w b 2 [(7, 1), (9, 2)] n) : Calls Try.prog 31 #[.pointer (some ⟨b, 0, none⟩)] w fun e w' => e = .returned (.int .i64 2) ∧ w = w' := mark_calls h.1
theorem al_len {n : Nat} (h : SG w0 w b 2 [(7, 1), (9, 2)] n) : Calls Try.prog 51 #[.pointer (some ⟨b, 0, none⟩)] w fun e w' => e = .returned (.int .i64 2) ∧ w = w' := len_calls h.1
end
end Go.Proofs.Ythjkodjpopcjaaa

namespace Go.Proofs.Ythjkodjpopcjaaa
open Go.RowKit Go.Maps

/-- The own set, and a row's block beside it. -/
def SR (g : Nat) (w0 w : World) (b : Nat) (room : Int) (ps : List (Int × Int)) (n : Nat) : Prop := ISet w b room ps n (fun x => w0.heap.size ≤ x ∧ x ≠ g) ∧ Kept (fun _ => False) w0 w
section
variable {w0 w w' : World} {g b : Nat} {room : Int} {ps : List (Int × Int)} {n : Nat}
theorem SR.keep (h : SR g w0 w b room ps n) (k : Kept (fun _ => False) w w') : SR g w0 w' b room ps n := ⟨h.1.keep k, h.2.trans k⟩
theorem SR.sg (h : SR g w0 w b room ps n) : SG w0 w b room ps n := ⟨h.1.mono (fun _ _ hx => hx.1), h.2⟩
theorem SR.back (h : SR g w0 w b room ps n) (hw : Wf ps) (hp : ps.length ≤ 60000) (mark : Int) :
    Calls Try.prog 37 #[.pointer (some ⟨b, 0, none⟩), .int .i64 mark] w fun e w' => e = .returned (.bool (decide (0 ≤ mark ∧ mark ≤ ps.length))) ∧ SR g w0 w' b room (if 0 ≤ mark ∧ mark ≤ ps.length then ps.take mark.toNat else ps) n ∧ Kept (fun x => w0.heap.size ≤ x ∧ x ≠ g) w w' :=
  (back_calls h.1 hw hp mark).mono fun _ _ ⟨h1, h2, h3⟩ => ⟨h1, ⟨h2, keptOwn h.2 (h3.mono (fun _ _ hx => hx.1))⟩, h3⟩
end
section
variable {w0 w : World} {g b : Nat}
theorem al_back3 {n : Nat} (h : SR g w0 w b 2 [(7, 1), (9, 2), (7, 3)] n) (hc : w.cell? ⟨g, 0, none⟩ = some (.int .i64 7)) : Calls Try.prog 37 #[.pointer (some ⟨b, 0, none⟩), .int .i64 2] w fun e w' => e = .returned (.bool true) ∧ SR g w0 w' b 2 [(7, 1), (9, 2)] n ∧ w'.cell? ⟨g, 0, none⟩ = some (.int .i64 7) :=
  (h.back wf3 (by decide) 2).mono fun _ _ ⟨h1, h2, h3⟩ => ⟨h1, h2, h3.cell_some (fun hx => hx.2 rfl) hc⟩
end
end Go.Proofs.Ythjkodjpopcjaaa
