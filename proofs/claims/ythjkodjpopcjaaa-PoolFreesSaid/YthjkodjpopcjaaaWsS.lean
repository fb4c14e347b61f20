/- Layer 8 (wset): All; the law's 'all'. -/
import Derived.Test.YthjkodjpopcjaaaWsR
namespace Go.Proofs.Ythjkodjpopcjaaa
open Go.RowKit Go.Maps

theorem own_empty (w : World) (e : TypeId) (size : Nat) : (w.alloc (.cells #[] e)).ownsRow w.heap.size e size (.slice (some ⟨w.heap.size, 0, none⟩) 0 0) 0 [] :=
  ⟨by simp, .inr ⟨w.heap.size, 0, #[], rfl, Nat.le_refl _, heap_alloc_new w _, by simp, by unfold maxLen; omega, by simp, by simp⟩⟩
theorem own_base {w : World} {base base' n size : Nat} {e : TypeId} {v : Value} {xs : List Value} (h : w.ownsRow base e size v n xs) (hb : ∀ x, v.ownBlock = some x → base' ≤ x) : w.ownsRow base' e size v n xs := by
  refine ⟨h.1, ?_⟩
  rcases h.2 with h | ⟨g, cap, cur, rfl, _, r⟩
  · exact .inl h
  · exact .inr ⟨g, cap, cur, rfl, hb g rfl, r⟩
theorem keepB {w w' : World} (h : Below w.heap.size w w') : Kept (fun _ => False) w w' := (Kept.below h).mono (fun k hk h => by omega)
theorem ent_cells {w : World} {g c n : Nat} {t : TypeId} {es : List (Int × Int)} (h : w.ownsRow 0 t 2 (.slice (some ⟨g, 0, none⟩) n c) n (entL es)) {k : Nat} {e : Int × Int} (he : es[k]? = some e) (hk : k < n) :
    w.cell? ⟨g, k * 2, none⟩ = some (.int .i64 e.1) ∧ w.cell? ⟨g, k * 2 + 1, none⟩ = some (.int .u64 e.2) :=
  ⟨(h.cellAt (k * 2) (by omega)).trans (entL_at es k e he).1, (h.cellAt (k * 2 + 1) (by omega)).trans (entL_at es k e he).2⟩

/-- A row of entries that was just made. -/
def Made (t : TypeId) (w : World) (es : List (Int × Int)) (e : Ending) (w' : World) : Prop :=
  ∃ v, e = .returned v ∧ w'.ownsRow 0 t 2 v es.length (entL es) ∧ (∀ x, v.ownBlock = some x → w.heap.size ≤ x) ∧ Kept (fun _ => False) w w'

set_option maxRecDepth 100000 in
set_option maxHeartbeats 1000000 in
theorem clone_ent {w : World} {v : Value} {es : List (Int × Int)} (h : w.ownsRow 0 150 2 v es.length (entL es)) (hl : es.length ≤ 70000) :
    Calls Try.prog 94 #[v] w (Made 150 w es) := by
  obtain ⟨i0, hi0, hz0, hz1, hz2⟩ := info_parts' infoEn
  obtain ⟨n, hn⟩ : ∃ n, es.length = n := ⟨_, rfl⟩
  have HN := Lib.hid hn
  rcases h.2 with ⟨rfl, h0⟩ | ⟨g, cap, cur, rfl, _, hg, hnc, hm, hs, ht⟩
  · have he0 : es = [] := List.eq_nil_of_length_eq_zero h0
    subst he0
    have he : ∀ W : World, (binOp .eql 135 (.slice none 0 0) (.slice none 0 0)).run Try.prog W = .ok (.bool true) W := fun _ => rfl
    clear h hn
    go_enter Try.func94, Try.ntmps94
    go_wp2_with fail
    go_ret
    exact ⟨_, rfl, World.ownsRow_nil _ _ _ _, fun x hx => by simp [Value.ownBlock] at hx, Kept.refl _ _⟩
  · have HH := Lib.hid h
    rw [hn] at hnc hl ⊢
    have he : ∀ W : World, (binOp .eql 135 (.slice (some ⟨g, 0, none⟩) n cap) (.slice none 0 0)).run Try.prog W = .ok (.bool false) W := fun _ => rfl
    have HC : Hid (∀ j u, (entL es)[j]? = some u → (w.alloc (.cells #[] 150)).cell? ((⟨g, 0, none⟩ : Addr).add j) = some u) := Lib.hid ((h.alloc _).cells (g := g) rfl)
    clear h hn hg ht
    go_enter Try.func94, Try.ntmps94
    go_wp2_with (at_builtin; refine Hid.out ?_)
    refine Lib.hid ?_
    refine wpList_append_own_at _ rfl _ _ 135 rfl w.heap.size 150 i0 _ 2 16 Try.underlying135 hi0 hz0 hz1 hz2 rfl (by decide) _ 0 [] rfl (own_empty w _ _) ⟨g, 0, none⟩ n cap (entL es) rfl (by rw [entL_length, HN.out]) HC.out (entL_one es) (by unfold maxLen; omega) (by omega) (by simp) ?_
    intro v' w1 ho hg _ _
    rw [Nat.zero_add, List.nil_append] at ho
    have hb : Below w.heap.size w w1 := (((Below.refl _ w).alloc (Nat.le_refl _) _).grown hg (by simp) (fun k e => by cases e; exact Nat.le_refl _))
    go_wp2_with fail
    go_ret
    exact ⟨v', rfl, by rw [HN.out]; exact own_base ho (fun _ _ => Nat.zero_le _), fun x hx => (ho.lt x hx).1, keepB hb⟩
section
variable {w : World} {b : Nat} {room : Int} {ps : List (Int × Int)} {n : Nat} {F : Nat → Prop}
set_option maxHeartbeats 1000000 in
theorem all_calls (h : ISet w b room ps n F) (hp : ps.length ≤ 60000) : Calls Try.prog 79 #[.pointer (some ⟨b, 0, none⟩)] w (Made 150 w (ents ps)) := by
  obtain ⟨mb, ev, cv, M, hF⟩ := h
  have hl := ents_len ps
  have c1 : w.cell? ⟨b, 1, none⟩ = some ev := M.blk.cell 1
  have HE := Lib.hid M.ens
  clear M hF
  go_enter Try.func79, Try.ntmps79
  go_wp2_with (go_at_call 94; refine (clone_ent HE.out (by omega)).mono ?_; rintro e w1 ⟨v, rfl, hm⟩; have HMd := Lib.hid hm; clear hm)
  go_ret
  exact ⟨v, rfl, HMd.out⟩

theorem infoRe : (Try.prog.info? 148).map (fun i => (i.zero, i.size, i.bytes)) = some (some (.agg #[.int .i64 0, .int .u64 0]), 2, 16) := by kernel_rfl

/-- What holds at the loop's head. -/
def AllRel (w : World) (h m c : Nat) (E : List (Int × Int)) (most : Int) (v i : Value) (wr : World) : Prop :=
  ∃ k : Nat, k ≤ m ∧ (k : Int) < most ∧ i = .int .i64 k ∧ wr.ownsRow 0 148 2 v k (entL (E.take k)) ∧ (∀ x, v.ownBlock = some x → w.heap.size ≤ x) ∧
    wr.ownsRow 0 150 2 (.slice (some ⟨h, 0, none⟩) m c) m (entL E) ∧ Kept (fun _ => False) w wr
theorem all_step {w wr W w1 : World} {h m c k : Nat} {E : List (Int × Int)} {v v1 : Value} {e : Int × Int} (hv : ∀ x, v.ownBlock = some x → w.heap.size ≤ x) (hvo : wr.ownsRow 0 148 2 v k (entL (E.take k)))
    (hs : wr.ownsRow 0 150 2 (.slice (some ⟨h, 0, none⟩) m c) m (entL E)) (hK : Kept (fun _ => False) w wr) (h1 : Kept (fun _ => False) wr W) (he : E[k]? = some e)
    (hown : w1.ownsRow 0 148 2 v1 (k + 1) (entL (E.take k) ++ [.int .i64 e.1, .int .u64 e.2])) (hg : W.grownBy w1 v.ownBlock) (hat : v1.ownBlock = v.ownBlock ∨ v1.ownBlock = some W.heap.size) :
    w1.ownsRow 0 148 2 v1 (k + 1) (entL (E.take (k + 1))) ∧ (∀ x, v1.ownBlock = some x → w.heap.size ≤ x) ∧ w1.ownsRow 0 150 2 (.slice (some ⟨h, 0, none⟩) m c) m (entL E) ∧ Kept (fun _ => False) w w1 := by
  obtain ⟨hk, rfl⟩ := List.getElem?_eq_some_iff.1 he
  refine ⟨by rw [List.take_succ_eq_append_getElem hk, entL_snoc]; exact hown, ?_, ?_, ?_⟩
  · intro x hx
    rcases hat with h' | h' <;> rw [h'] at hx
    · exact hv x hx
    · injection hx with hx
      have := hK.size
      have := h1.size
      omega
  · exact (h1.own hs (fun _ _ h => h)).kept hg (own_ne hs hvo (by decide))
  · have := hK.trans h1
    exact ⟨hg.os.trans this.os, hg.tape.trans this.tape, hg.output.trans this.output, Nat.le_trans this.size hg.size, fun k' hk' _ => (hg.block k' (Nat.lt_of_lt_of_le hk' this.size) (fun e => by have := hv k' e.symm; omega)).trans (this.block k' hk' (fun h => h))⟩

end
end Go.Proofs.Ythjkodjpopcjaaa
