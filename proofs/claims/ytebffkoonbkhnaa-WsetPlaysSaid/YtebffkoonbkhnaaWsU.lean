/- Layer 8 (wset): Back. -/
import Derived.Test.YtebffkoonbkhnaaWsT
namespace Go.Proofs.Ytebffkoonbkhnaa
open Go.RowKit Go.Maps

def Wf (ps : List (Int × Int)) : Prop := ∀ p ∈ ps, I64 p.1
theorem Wf.take {ps : List (Int × Int)} (h : Wf ps) (k : Nat) : Wf (ps.take k) := fun p hp => h p (List.mem_of_mem_take hp)
theorem Wf.putS {room : Int} {ps : List (Int × Int)} (h : Wf ps) {p : Int × Int} (hp : I64 p.1) : Wf (putS room ps p) := by
  unfold Go.Proofs.Ytebffkoonbkhnaa.putS
  split
  · intro q hq
    rcases List.mem_append.1 hq with hq | hq
    · exact h q hq
    · rw [List.mem_singleton.1 hq]; exact hp
  · exact h

theorem SetC.cut_ch {w : World} {b mb g c : Nat} {ev : Value} {room : Int} {es ks : List (Int × Int)} {d : ChD} {cs : List ChD} {n : Nat} (M : SetC w b mb ev (.slice (some ⟨g, 0, none⟩) (cs.length + 1) c) room es ks (cs ++ [d]) n) :
    SetC (w.setCell ⟨b, 3, none⟩ (.slice (some ⟨g, 0, none⟩) cs.length c)) b mb ev (.slice (some ⟨g, 0, none⟩) cs.length c) room es ks cs n := by
  have he := M.chg
  rw [List.length_append] at he
  have hc := own_cut he (show cs.length ≤ cs.length + 1 by omega)
  rw [chL_take, List.take_left' rfl] at hc
  exact M.field M.ens hc rfl
theorem ch_cells {w : World} {g c n : Nat} {cs : List ChD} (h : w.ownsRow 0 162 3 (.slice (some ⟨g, 0, none⟩) n c) n (chL cs)) {k : Nat} {d : ChD} (he : cs[k]? = some d) (hk : k < n) :
    w.cell? ⟨g, k * 3, none⟩ = some (.int .i64 (d.place : Int)) ∧ w.cell? ⟨g, k * 3 + 1, none⟩ = some (.int .u64 d.was) ∧ w.cell? ⟨g, k * 3 + 2, none⟩ = some (.bool d.fresh) :=
  ⟨(h.cellAt (k * 3) (by omega)).trans (chL_at cs k d he).1, (h.cellAt (k * 3 + 1) (by omega)).trans (chL_at cs k d he).2.1, (h.cellAt (k * 3 + 2) (by omega)).trans (chL_at cs k d he).2.2⟩

/-- The last Put is undone: the set behind it, its changes not cut yet. -/
theorem undo_last {w : World} {b mb : Nat} {ev cv : Value} {room : Int} {q : List (Int × Int)} {p : Int × Int} {n : Nat} (hp : I64 p.1) (hl : q.length ≤ 60000) (M : SetC w b mb ev cv room (ents (q ++ [p])) (ents (q ++ [p])) (chs (q ++ [p])) n) :
    ∃ d : ChD, chs (q ++ [p]) = chs q ++ [d] ∧ Calls Try.prog 91 #[.pointer (some ⟨b, 0, none⟩), .agg #[.int .i64 (d.place : Int), .int .u64 d.was, .bool d.fresh]] w fun e w' => e = .returned (.tuple #[]) ∧ UndoF w w' b mb ev cv room (ents q) (ents q) (chs q ++ [d]) n := by
  have hle := ents_len q
  rcases undo_math q p with ⟨i, old, hi, h1, he, hc⟩ | ⟨hi, he, hc⟩
  · refine ⟨⟨i, old, false⟩, hc, ?_⟩
    have hil : i < (ents q).length := (List.getElem?_eq_some_iff.1 h1).1
    have h2 : (ents (q ++ [p]))[i]? = some (p.1, p.2) := by rw [he, List.getElem?_set_self hil]
    refine (undo_old M i p.1 p.2 old h2).mono fun e w' ⟨hr, ev', M', K', F'⟩ => ⟨hr, ev', ?_, K', F'⟩
    have h3 : (ents (q ++ [p])).set i (p.1, old) = ents q := by rw [he]; exact set_back h1
    rw [h3, hc] at M'
    exact ⟨M'.blk, M'.map.same (fun x => by rw [he]; exact (idx_set _ p.2 p.1 i hi x).symm), M'.ens, M'.chg⟩
  · refine ⟨⟨0, 0, true⟩, hc, ?_⟩
    rw [he] at M
    rw [← hc]
    exact undo_new M hp hi (by omega) 0 0

section
variable {w : World} {b : Nat} {room : Int} {ps : List (Int × Int)} {n : Nat} {F : Nat → Prop}
def BackR (w : World) (b : Nat) (room : Int) (ps : List (Int × Int)) (n : Nat) (F : Nat → Prop) (mark : Int) (e : Ending) (w' : World) : Prop :=
  e = .returned (.bool (decide (0 ≤ mark ∧ mark ≤ ps.length))) ∧ ISet w' b room (if 0 ≤ mark ∧ mark ≤ ps.length then ps.take mark.toNat else ps) n F ∧ Kept F w w'
def BRel (w : World) (b : Nat) (room : Int) (ps : List (Int × Int)) (n : Nat) (F : Nat → Prop) (mark : Nat) (wr : World) : Prop :=
  ∃ (W : World) (k : Nat), W = wr ∧ mark ≤ k ∧ k ≤ ps.length ∧ ISet W b room (ps.take k) n F ∧ Kept F w W
def lenAt (b : Nat) (wr : World) : Nat := match wr.cell? ⟨b, 3, none⟩ with | some (.slice _ m _) => m | _ => 0

set_option maxRecDepth 100000 in
set_option maxHeartbeats 4000000 in
theorem back_yes (h : ISet w b room ps n F) (hw : Wf ps) (hp : ps.length ≤ 60000) (mark : Nat) (hm : mark ≤ ps.length) :
    Calls Try.prog 42 #[.pointer (some ⟨b, 0, none⟩), .int .i64 (mark : Int)] w fun e w' => e = .returned (.bool true) ∧ ISet w' b room (ps.take mark) n F ∧ Kept F w w' := by
  have HS := Lib.hid h
  have HW := Lib.hid hw
  obtain ⟨L, hL⟩ : ∃ L, ps.length = L := ⟨_, rfl⟩
  have HLL := Lib.hid hL
  obtain ⟨mb0, ev0, cv0, M0, _⟩ := h
  obtain ⟨A0, c0, rfl⟩ := own_form M0.chg
  have c3 : w.cell? ⟨b, 3, none⟩ = some (.slice A0 L c0) := by rw [← hL, ← chs_len]; exact M0.blk.cell 3
  have hmL : (mark : Int) ≤ L := by omega
  have hL6 : L ≤ 60000 := by omega
  have hd0 : decide ((mark : Int) < 0) = false := decide_eq_false (by omega)
  have hd1 : ¬ (mark : Int) < 0 := by omega
  clear hw M0 hL hm
  go_enter Try.func42, Try.ntmps42
  go_wp2_with fail
  clear c3
  go_loopw [5] (fun _ wr => BRel w b room ps n F mark wr) (fun _ wr => lenAt b wr)
  case atStart => exact ⟨_, L, rfl, by omega, by rw [HLL.out]; omega, by rw [← HLL.out, List.take_of_length_le (Nat.le_refl _)]; exact HS.out, Kept.refl _ _⟩
  case round =>
    obtain ⟨wr, k, rfl, hk1, hk2, hS, hK⟩ := hrel
    rw [HLL.out] at hk2
    obtain ⟨mb, ev, cv, M, hF⟩ := hS
    have hkl : (ps.take k).length = k := by rw [List.length_take, HLL.out]; omega
    obtain ⟨A, c, hcv⟩ := own_form M.chg
    rw [chs_len, hkl] at hcv
    have c3 : wr.cell? ⟨b, 3, none⟩ = some cv := M.blk.cell 3
    rw [hcv] at c3
    by_cases hlt : mark < k
    · obtain ⟨j, rfl⟩ : ∃ j, k = j + 1 := ⟨k - 1, by omega⟩
      have hj : j < ps.length := by rw [HLL.out]; omega
      obtain ⟨pj, ht, hpj⟩ : ∃ pj, ps.take (j + 1) = ps.take j ++ [pj] ∧ I64 pj.1 := ⟨ps[j], List.take_succ_eq_append_getElem hj, HW.out _ (List.getElem_mem hj)⟩
      rw [ht] at M hkl
      obtain ⟨d, hd, hcall⟩ := undo_last hpj (by rw [List.length_take]; omega) M
      have hjl : (chs (ps.take j)).length = j := by rw [chs_len, List.length_take]; omega
      obtain ⟨g, c', hcv', hcc⟩ := own_some M.chg (by rw [hd]; simp)
      rw [hcv, hd, List.length_append, hjl] at hcv'
      injection hcv' with hA _ hc'
      subst hA hc'
      have hown := M.chg
      rw [hd, hcv, List.length_append, hjl] at hown
      obtain ⟨d0, d1, d2⟩ := ch_cells hown (k := j) (d := d) (by rw [List.getElem?_append_right (by omega), hjl]; simp) (by simp)
      have HCall := Lib.hid hcall
      have HJ := Lib.hid hjl
      have HFF := Lib.hid hF
      have HKK := Lib.hid hK
      have HCV := Lib.hid hcv
      have HT := Lib.hid ht
      have hb1 : (0 : Int) ≤ (j : Int) := by omega
      have hb2 : (j : Int) < ((j + 1 : Nat) : Int) := by omega
      have hb3 : (j : Int) < (j : Int) + 1 := by omega
      have hml : Hid (lenAt b wr = j + 1) := Lib.hid (by unfold lenAt; rw [c3])
      obtain ⟨pl, was, fr⟩ := d
      simp only at d0 d1 d2
      have hjc : (j : Int) ≤ c := by rw [hd, List.length_append, hjl] at hcc; simp only [List.length_singleton] at hcc; omega
      have hjc1 : j ≤ c := by omega
      clear M hcall hd hjl hF hK hcv ht hkl hj hown hcc
      go_wp2_with (go_at_call 91; refine (HCall.out).mono ?_; rintro e w1 ⟨rfl, ev', M1, K1, F1⟩; have HM1 := Lib.hid M1; have HK1 := Lib.hid K1; have HF1 := Lib.hid F1; rw [HCV.out] at HM1 HK1 HF1; have e3 : w1.cell? ⟨b, 3, none⟩ = some (.slice (some ⟨g, 0, none⟩) (j + 1) c) := HM1.out.blk.cell 3; have f3 := HM1.out.blk.frozen 3; clear M1 K1 F1)
      have HC3 : Hid ((w1.setCell ⟨b, 3, none⟩ (.slice (some ⟨g, 0, none⟩) j c)).cell? ⟨b, 3, none⟩ = some (.slice (some ⟨g, 0, none⟩) j c)) := Lib.hid ((HM1.out.blk.set_ 3 _).cell 3)
      have HCut : Hid (ISet (w1.setCell ⟨b, 3, none⟩ (.slice (some ⟨g, 0, none⟩) j c)) b room (ps.take j) n F) := Lib.hid ⟨mb, ev', .slice (some ⟨g, 0, none⟩) j c, by
        have := SetC.cut_ch (cs := chs (ps.take j)) (d := ⟨pl, was, fr⟩) (by rw [HJ.out]; exact HM1.out)
        rw [HJ.out] at this
        exact this, fun x hx => HFF.out x (by rw [HCV.out]; exact HF1.out x (by rcases hx with h | h | h | h; exact .inl h; exact .inr (.inl h); exact .inr (.inr (.inl h)); exact .inr (.inr (.inr h))))⟩
      have HKC : Hid (Kept F w (w1.setCell ⟨b, 3, none⟩ (.slice (some ⟨g, 0, none⟩) j c))) := Lib.hid (HKK.out.trans' ((HK1.out).setCell (p := ⟨b, 3, none⟩) (.inl (.inl rfl)) _) (fun x _ hx => HFF.out x (by rw [HCV.out]; exact hx)))
      clear HM1 HK1 HF1
      go_wp2_with fail
      go_roundw
      case rel => first | exact ⟨_, j, rfl, by omega, by rw [HLL.out]; omega, HCut.out, HKC.out⟩ | ((repeat apply Exists.intro); exact ⟨⟨_, j, rfl, by omega, by rw [HLL.out]; omega, HCut.out, HKC.out⟩, rfl⟩)
      case measure =>
        rw [hml.out]
        unfold lenAt
        rw [HC3.out]
        exact Nat.lt_succ_self j
    · obtain rfl : k = mark := by omega
      have HR := Lib.hid (show ISet wr b room (ps.take k) n F from ⟨mb, ev, cv, M, hF⟩)
      have HKK := Lib.hid hK
      clear M hF hK hcv
      go_wp2_with fail
      go_ret
      exact ⟨rfl, HR.out, HKK.out⟩
end
end Go.Proofs.Ytebffkoonbkhnaa
