/- Layer 8 (wset): Put as a whole; New, Get, Len, Room, Mark. -/
import Derived.Test.YthjkodjpopcjaaaWsQ
namespace Go.Proofs.Ythjkodjpopcjaaa
open Go.RowKit Go.Maps

def putErr (room : Int) (ps : List (Int × Int)) (a : Int) : Int := if fits room ps a = true then 0 else 6
/-- What a Put leaves. -/
def PutR (w : World) (b : Nat) (room : Int) (ps : List (Int × Int)) (p : Int × Int) (n : Nat) (F : Nat → Prop) (e : Ending) (w' : World) : Prop :=
  e = .returned (.int .i64 (putErr room ps p.1)) ∧ ISet w' b room (putS room ps p) (n + 1) (fun x => F x ∨ w.heap.size ≤ x) ∧ Kept F w w'
theorem put_calls {w : World} {b : Nat} {room : Int} {ps : List (Int × Int)} {n : Nat} {F : Nat → Prop} (h : ISet w b room ps n F) (a v : Int) (ha : I64 a) (hp : ps.length ≤ 60000) (hn : n ≤ 60000) :
    Calls Try.prog 77 #[.pointer (some ⟨b, 0, none⟩), .int .i64 a, .int .u64 v] w (PutR w b room ps (a, v) n F) := by
  obtain ⟨mb, ev, cv, M, hF⟩ := h
  have hl := ents_len ps
  have hc := chs_len ps
  cases hi : idx (ents ps) a with
  | some i =>
    obtain ⟨old, h1, h2⟩ := idx_some hi
    have hf : fits room ps a = true := by unfold fits; rw [h2]; rfl
    refine (put_found M a v old ha i hi h1 (by omega) (by omega)).mono fun e w' ⟨he, ev', cv', M', K', F'⟩ => ?_
    refine ⟨by rw [he]; unfold putErr; rw [if_pos hf], ⟨mb, ev', cv', ?_, fun x hx => (F' x hx).imp (hF x) id⟩, K'.mono (fun k _ hk => hF k hk)⟩
    unfold putS
    rw [if_pos hf, ents_old (p := (a, v)) hi, chs_old (p := (a, v)) hi, h2]
    exact ⟨M'.blk, (M'.map.same (fun x => idx_set _ v a i hi x)).more (by omega), M'.ens, M'.chg⟩
  | none =>
    have hln := idx_none hi
    by_cases hr : ((ents ps).length : Int) < room
    · have hf : fits room ps a = true := by unfold fits; simp [hr]
      refine (put_new M a v ha hi hr (by omega) (by omega) (by omega)).mono fun e w' ⟨he, ev', cv', M', K', F'⟩ => ?_
      refine ⟨by rw [he]; unfold putErr; rw [if_pos hf], ⟨mb, ev', cv', ?_, fun x hx => (F' x hx).imp (hF x) id⟩, K'.mono (fun k _ hk => hF k hk)⟩
      unfold putS
      rw [if_pos hf, ents_new (p := (a, v)) hi, chs_new (p := (a, v)) hi]
      exact M'
    · have hf : fits room ps a = false := by unfold fits; rw [hln]; simp; omega
      refine (put_full M a v ha hi (by omega) (by omega)).mono fun e w' ⟨he, K'⟩ => ?_
      refine ⟨by rw [he]; unfold putErr; rw [hf]; rfl, ?_, K'.mono (fun _ _ h => h.elim)⟩
      have : ISet w b room ps n F := ⟨mb, ev, cv, M, hF⟩
      have h2 : ISet w' b room ps n F := this.keep K'
      unfold putS
      simp only [hf, Bool.false_eq_true, if_false]
      exact (h2.mono (fun x _ hx => .inl hx)).more (by omega)

def roomOf (x : Int) : Int := min (max x 0) 65536
theorem roomOf_bd (x : Int) : 0 ≤ roomOf x ∧ roomOf x ≤ 65536 := by unfold roomOf; omega
theorem roomOf_in {x : Int} (h0 : 0 ≤ x) (h1 : x ≤ 65536) : roomOf x = x := by unfold roomOf; omega
def NewR (w : World) (room : Int) (e : Ending) (w' : World) : Prop := ∃ b, e = .returned (.pointer (some ⟨b, 0, none⟩)) ∧ ISet w' b (roomOf room) [] 0 (fun x => w.heap.size ≤ x) ∧ Kept (fun _ => False) w w'
theorem madeSet (w : World) (r : Int) : ISet ((w.alloc (.map #[] 0)).alloc (.cells #[.int .i64 r, .slice none 0 0, .map (some w.heap.size), .slice none 0 0] 138)) (w.heap.size + 1) r [] 0 (fun x => w.heap.size ≤ x) := by
  refine ⟨w.heap.size, .slice none 0 0, .slice none 0 0, ⟨Blk.new' _ _ _ _ (by simp), ?_, World.ownsRow_nil _ _ _ _, World.ownsRow_nil _ _ _ _⟩, ?_⟩
  · exact (IMap.made w).kept ((Kept.refl (fun _ => False) _).alloc _) (fun h => h)
  · rintro x (rfl | rfl | h | h)
    · exact Nat.le_succ _
    · exact Nat.le_refl _
    · simp [Value.ownBlock] at h
    · simp [Value.ownBlock] at h
set_option maxHeartbeats 1000000 in
theorem new_calls (room : Int) (w : World) : Calls Try.prog 26 #[.int .i64 room] w (NewR w room) := by
  have hmm := @run_makeMap Try.prog
  have HS := Lib.hid (madeSet w)
  go_enter Try.func26, Try.ntmps26
  go_wp2_with fail
  go_ret
  exact ⟨_, rfl, HS.out (roomOf room), ((Kept.refl _ w).alloc _).alloc _⟩

section
variable {w : World} {b : Nat} {room : Int} {ps : List (Int × Int)} {n : Nat} {F : Nat → Prop}
set_option maxHeartbeats 1000000 in
theorem len_calls (h : ISet w b room ps n F) : Calls Try.prog 51 #[.pointer (some ⟨b, 0, none⟩)] w fun e w' => e = .returned (.int .i64 ((ents ps).length : Nat)) ∧ w = w' := by
  obtain ⟨mb, ev, cv, M, hF⟩ := h
  obtain ⟨A, c, rfl⟩ := own_form M.ens
  have c1 : w.cell? ⟨b, 1, none⟩ = some (.slice A (ents ps).length c) := M.blk.cell 1
  clear M hF
  go_enter Try.func51, Try.ntmps51
  go_wp2_with fail
  go_ret
  exact ⟨rfl, rfl⟩
set_option maxHeartbeats 1000000 in
theorem mark_calls (h : ISet w b room ps n F) : Calls Try.prog 31 #[.pointer (some ⟨b, 0, none⟩)] w fun e w' => e = .returned (.int .i64 (ps.length : Nat)) ∧ w = w' := by
  obtain ⟨mb, ev, cv, M, hF⟩ := h
  have hlen := chs_len ps
  obtain ⟨A, c, rfl⟩ := own_form M.chg
  have c1 : w.cell? ⟨b, 3, none⟩ = some (.slice A (chs ps).length c) := M.blk.cell 3
  rw [hlen] at c1
  clear M hF hlen
  go_enter Try.func31, Try.ntmps31
  go_wp2_with fail
  go_ret
  exact ⟨rfl, rfl⟩
/-- What Get answers. -/
def getV (ps : List (Int × Int)) (a : Int) : Value := .tuple #[.int .u64 ((look (ents ps) a).getD 0), .bool (look (ents ps) a).isSome]
set_option maxHeartbeats 2000000 in
theorem get_calls (h : ISet w b room ps n F) (a : Int) (ha : I64 a) : Calls Try.prog 48 #[.pointer (some ⟨b, 0, none⟩), .int .i64 a] w fun e w' => e = .returned (getV ps a) ∧ w = w' := by
  obtain ⟨mb, ev, cv, M, hF⟩ := h
  obtain ⟨x, hx, _, hlk⟩ := look_ent M.map ha
  have hlk0 := hlk w rfl
  have c2 : w.cell? ⟨b, 2, none⟩ = some (.map (some mb)) := M.blk.cell 2
  cases hi : idx (ents ps) a with
  | none =>
    have hv : Hid (getV ps a = .tuple #[.int .u64 0, .bool false]) := Lib.hid (by unfold getV; rw [idx_none hi]; rfl)
    rw [hi] at hlk0
    clear M hF hlk hx hi
    go_enter Try.func48, Try.ntmps48
    go_wp2_with fail
    go_ret2
    exact ⟨by rw [hv.out]; rfl, rfl⟩
  | some i =>
    obtain ⟨v, h1, h2⟩ := idx_some hi
    obtain rfl := hx i hi
    have hil : i < (ents ps).length := (List.getElem?_eq_some_iff.1 h1).1
    obtain ⟨g, c, rfl, hc⟩ := own_some M.ens (by omega)
    have c1 : w.cell? ⟨b, 1, none⟩ = some (.slice (some ⟨g, 0, none⟩) (ents ps).length c) := M.blk.cell 1
    have hval : w.cell? ⟨g, i * 2 + 1, none⟩ = some (.int .u64 v) := by rw [M.ens.cellAt (i * 2 + 1) (by omega)]; exact (entL_at _ i _ h1).2
    have hv : Hid (getV ps a = .tuple #[.int .u64 v, .bool true]) := Lib.hid (by unfold getV; rw [h2]; rfl)
    have hil' : (i : Int) < (ents ps).length := by omega
    have hi0' : (0 : Int) ≤ i := by omega
    rw [hi] at hlk0
    clear M hF hlk hx hi h1 h2
    go_enter Try.func48, Try.ntmps48
    go_wp2_with fail
    go_ret2
    exact ⟨by rw [hv.out]; rfl, rfl⟩
end
end Go.Proofs.Ythjkodjpopcjaaa
