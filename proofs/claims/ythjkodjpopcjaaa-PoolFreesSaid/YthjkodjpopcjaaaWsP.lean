/- Layer 8 (wset): Put. -/
import Derived.Test.YthjkodjpopcjaaaWsC
namespace Go.Proofs.Ythjkodjpopcjaaa
open Go.RowKit Go.Maps

theorem infoCh : (Try.prog.info? 146).map (fun i => (i.zero, i.size, i.bytes)) = some (some (.agg #[.int .i64 0, .int .u64 0, .bool false]), 3, 24) := by kernel_rfl
theorem infoEn : (Try.prog.info? 150).map (fun i => (i.zero, i.size, i.bytes)) = some (some (.agg #[.int .i64 0, .int .u64 0]), 2, 16) := by kernel_rfl

/-- A set in memory behind a Put. -/
def PutF (w w' : World) (b mb : Nat) (ev cv : Value) (room : Int) (es ks : List (Int × Int)) (cs : List ChD) (n : Nat) : Prop :=
  ∃ ev' cv', SetC w' b mb ev' cv' room es ks cs n ∧ Kept (Foot b mb ev cv) w w' ∧ ∀ x, Foot b mb ev' cv' x → Foot b mb ev cv x ∨ w.heap.size ≤ x

set_option maxRecDepth 100000 in
set_option maxHeartbeats 8000000 in
theorem put_found {w : World} {b mb : Nat} {ev cv : Value} {room : Int} {es ks : List (Int × Int)} {cs : List ChD} {n : Nat} (M : SetC w b mb ev cv room es ks cs n) (a v old : Int) (ha : I64 a) (i : Nat) (hi : idx ks a = some i) (hv : es[i]? = some (a, old))
    (hl : es.length ≤ 70000) (hcl : cs.length ≤ 70000) :
    Calls Try.prog 77 #[.pointer (some ⟨b, 0, none⟩), .int .i64 a, .int .u64 v] w fun e w' => e = .returned (.int .i64 0) ∧
      PutF w w' b mb ev cv room (es.set i (a, v)) ks (cs ++ [⟨i, old, false⟩]) n := by
  have hil : i < es.length := (List.getElem?_eq_some_iff.1 hv).1
  obtain ⟨g, c, rfl, hc⟩ := own_some M.ens (by omega)
  obtain ⟨i0, hi0, hz0, hz1, hz2⟩ := info_parts' infoCh
  obtain ⟨x, hx, _, hlk⟩ := look_ent M.map ha
  obtain rfl := hx i hi
  have hlk0 := hlk w rfl
  rw [hi] at hlk0
  have c1 : w.cell? ⟨b, 1, none⟩ = some (.slice (some ⟨g, 0, none⟩) es.length c) := M.blk.cell 1
  have c2 : w.cell? ⟨b, 2, none⟩ = some (.map (some mb)) := M.blk.cell 2
  have c3 : w.cell? ⟨b, 3, none⟩ = some cv := M.blk.cell 3
  have f3 := M.blk.frozen 3
  have hval : w.cell? ⟨g, i * 2 + 1, none⟩ = some (.int .u64 old) := by rw [M.ens.cellAt (i * 2 + 1) (by omega)]; exact (entL_at es i _ hv).2
  have hEb := M.b_chg
  have hbl := M.blk.lt
  obtain ⟨m, hm⟩ : ∃ m, es.length = m := ⟨_, rfl⟩
  rw [hm] at c1 hil
  have HM := Lib.hid M
  have HV := Lib.hid hv
  have HMM := Lib.hid hm
  have hil' : (i : Int) < m := by omega
  have hi0' : (0 : Int) ≤ i := by omega
  clear M hv hx hi hlk hl hm
  go_enter Try.func77, Try.ntmps77
  go_upto_region 3 with fail
  clear hlk0 c2
  go_cut [] (fun wx => ∃ cv', SetC wx b mb (.slice (some ⟨g, 0, none⟩) es.length c) cv' room es ks (cs ++ [⟨i, old, false⟩]) n ∧ Kept (Foot b mb (.slice (some ⟨g, 0, none⟩) es.length c) cv) w wx ∧ ∀ x, Foot b mb (.slice (some ⟨g, 0, none⟩) es.length c) cv' x → Foot b mb (.slice (some ⟨g, 0, none⟩) es.length c) cv x ∨ w.heap.size ≤ x)
  case first =>
    go_region_law
      (refine step_append_lies _ (by rfl) _ _ _ (by rfl) 0 146 i0 _ 3 24 Try.underlying136 hi0 hz0 hz1 hz2 rfl (by omega) cv cs.length (chL cs) (by rfl) ((HM.out.chg.alloc _).drew)
            ⟨w.heap.size, 0, none⟩ 1 1 [.int .i64 (i : Int), .int .u64 old, .bool false] (by rfl) (by rfl) (World.news_of_block (cs := #[.int .i64 (i : Int), .int .u64 old, .bool false]) (t := 146) (fr := (0, 0)) (heap_alloc_new w _)) (by simp [Value.oneCell'])
            (by omega) (by unfold maxLen; omega) (by omega) (Nat.zero_le _) (w.heap.size + 1) (by simp) ?_; intro gg cap3 w3 hown3 hgrow hat hlt; have h3' : w3.cell? ⟨b, 3, none⟩ = some cv := ((HM.out.blk.alloc _).drew.grown hgrow hEb).cell 3; have f3' := ((HM.out.blk.alloc _).drew.grown hgrow hEb).frozen 3)
    all_goals (
      go_wp2_with fail
      go_meet
      exact ⟨_, SetC.push_ch (c := ⟨i, old, false⟩) HM.out (((Kept.refl _ w).alloc _).drew) hown3 hgrow (hat.elim (fun h => .inl (by rw [h]; rfl)) (fun h => .inr ⟨gg, rfl, by omega⟩))⟩)
  case rest =>
    obtain ⟨cv', M2, K2, hF⟩ := hcut
    have d1 : wc.cell? ⟨b, 1, none⟩ = some (.slice (some ⟨g, 0, none⟩) m c) := by rw [← HMM.out]; exact M2.blk.cell 1
    have dval : wc.cell? ⟨g, i * 2 + 1, none⟩ = some (.int .u64 old) := by rw [M2.ens.cellAt (i * 2 + 1) (by have := HMM.out; omega)]; exact (entL_at es i _ HV.out).2
    have df := M2.ens.frozenAt (i * 2 + 1)
    have HR := Lib.hid (M2.turn (v' := v) HV.out)
    have HKF : Hid (Kept (Foot b mb (.slice (some ⟨g, 0, none⟩) es.length c) cv) w (wc.setCell ⟨g, i * 2 + 1, none⟩ (.int .u64 v))) := Lib.hid (K2.setCell (p := ⟨g, i * 2 + 1, none⟩) (.inl (.inr (.inr (.inl rfl)))) _)
    have HF := Lib.hid hF
    clear M2 K2 hF c1 c3 f3 hval
    go_wp2_with fail
    go_ret
    exact ⟨rfl, _, cv', HR.out, HKF.out, HF.out⟩

set_option maxRecDepth 100000 in
set_option maxHeartbeats 4000000 in
theorem put_full {w : World} {b mb : Nat} {ev cv : Value} {room : Int} {es ks : List (Int × Int)} {cs : List ChD} {n : Nat} (M : SetC w b mb ev cv room es ks cs n) (a v : Int) (ha : I64 a) (hi : idx ks a = none) (hr : room ≤ es.length) (hl : es.length ≤ 70000) :
    Calls Try.prog 77 #[.pointer (some ⟨b, 0, none⟩), .int .i64 a, .int .u64 v] w fun e w' => e = .returned (.int .i64 6) ∧ Kept (fun _ => False) w w' := by
  obtain ⟨A, c, hev⟩ := own_form M.ens
  obtain ⟨x, _, _, hlk⟩ := look_ent M.map ha
  have hlk0 := hlk w rfl
  rw [hi] at hlk0
  obtain ⟨m, hm⟩ : ∃ m, es.length = m := ⟨_, rfl⟩
  rw [hm] at hev hr
  subst hev
  have c0 : w.cell? ⟨b, 0, none⟩ = some (.int .i64 room) := M.blk.cell 0
  have c1 : w.cell? ⟨b, 1, none⟩ = some (.slice A m c) := M.blk.cell 1
  have c2 : w.cell? ⟨b, 2, none⟩ = some (.map (some mb)) := M.blk.cell 2
  clear M hlk hi hm
  go_enter Try.func77, Try.ntmps77
  go_wp2_with fail
  go_quiet (fail)
  go_wp2_with fail
  go_ret
  exact ⟨rfl, (Kept.refl _ w).drewN _⟩
end Go.Proofs.Ythjkodjpopcjaaa
