/- Layer 2 (glyph): the document's Lines. -/
import Derived.Test.YtonihjijienigaaDoorGlRd
import Derived.Test.YtonihjijienigaaDoorGlM
namespace Go.Proofs.YtonihjijienigaaDoor
open Go.RowKit Go.Shelf

theorem infoSlR : (Tryd.prog.info? 27).map (fun i => (i.zero, i.size, i.bytes)) = some (some (.slice none 0 0), 1, 24) := by kernel_rfl
def RowR (x : Ln) (W : World) : Prop := W.ownsRow 0 44 5 (.slice x.A x.l.length x.c) x.l.length (flatT x.l)
/-- Rows whose blocks lie below a place. -/
def RowsB (b : Nat) (ys : List Ln) (W : World) : Prop := ∀ y ∈ ys, RowR y W ∧ ∀ j, (Value.slice y.A y.l.length y.c).ownBlock = some j → j < b
theorem RowsB.kept {b : Nat} {ys : List Ln} {W W' : World} {row : Option Nat} (h : RowsB b ys W) (hg : W.grownBy W' row) (hr : ∀ j, row = some j → b ≤ j) : RowsB b ys W' := fun y hy => by
  obtain ⟨h1, h2⟩ := h y hy
  refine ⟨World.ownsRow.kept h1 hg ?_, h2⟩
  cases ho : (Value.slice y.A y.l.length y.c).ownBlock with
  | none => exact .inl rfl
  | some j =>
    right
    intro e
    have := h2 j ho
    have := hr j e.symm
    omega
theorem RowsB.put {b : Nat} {ys : List Ln} {W W' : World} {row : Option Nat} (h : RowsB b ys W) (hg : W.grownBy W' row) (hr : ∀ j, row = some j → ∀ cs fr, W.heap[j]? ≠ some (Obj.cells cs 44 fr)) : RowsB b ys W' := fun y hy => by
  obtain ⟨h1, h2⟩ := h y hy
  refine ⟨World.ownsRow.kept h1 hg ?_, h2⟩
  rcases h1.2 with ⟨hv, _⟩ | ⟨g, cap, cur, hv, _, hgb, _⟩
  · left; rw [hv]; rfl
  · right; rw [hv]; intro e; exact hr g (by simpa [Value.ownBlock] using e.symm) _ _ hgb
theorem RowsB.alloc {b : Nat} {ys : List Ln} {W : World} (h : RowsB b ys W) (o : Obj) : RowsB b ys (W.alloc o) := h.kept (World.grownBy_alloc W o none) (fun j e => by cases e)
theorem RowsB.up {b b' : Nat} {ys : List Ln} {W : World} (h : RowsB b ys W) (hb : b ≤ b') : RowsB b' ys W := fun y hy => ⟨(h y hy).1, fun j hj => Nat.lt_of_lt_of_le ((h y hy).2 j hj) hb⟩
theorem row_not {W : World} {base : Nat} {e : TypeId} {size n : Nat} {v : Value} {xs : List Value} (h : W.ownsRow base e size v n xs) {t : TypeId} (hne : e ≠ t) : ∀ j, v.ownBlock = some j → ∀ cs fr, W.heap[j]? ≠ some (Obj.cells cs t fr) := fun j hj cs fr hc => by
  rcases h.2 with ⟨rfl, _⟩ | ⟨g', cap, cur, rfl, _, hh, _⟩
  · simp [Value.ownBlock] at hj
  · have : g' = j := by simpa [Value.ownBlock] using hj
    subst this
    rw [hh] at hc
    injection hc with hc
    injection hc with _ h2
    exact hne h2

theorem rows_ne {W : World} {b1 b2 : Nat} {e1 e2 : TypeId} {s1 s2 n1 n2 : Nat} {v1 v2 : Value} {x1 x2 : List Value} (h1 : W.ownsRow b1 e1 s1 v1 n1 x1) (h2 : W.ownsRow b2 e2 s2 v2 n2 x2) (hne : e1 ≠ e2) : v1.ownBlock = none ∨ v1.ownBlock ≠ v2.ownBlock := by
  rcases h1.2 with ⟨rfl, _⟩ | ⟨g, cap, cur, rfl, _, hh, _⟩
  · exact .inl rfl
  · exact .inr (fun e => row_not h2 (fun h => hne h.symm) g e.symm _ _ hh)
theorem RowsB.top {b : Nat} {ys : List Ln} {W : World} (h : RowsB b ys W) : RowsB W.heap.size ys W := fun y hy => ⟨(h y hy).1, fun j hj => (World.ownsRow.lt (h y hy).1 j hj).2⟩
theorem RowsB.snoc {b b' : Nat} {ys : List Ln} {W : World} (h : RowsB b ys W) {U : Option Addr} {r z : Nat} {cur : List Tok} (hr : cur.length = r) (hc : W.ownsRow b' 44 5 (.slice U r z) r (flatT cur)) : RowsB W.heap.size (ys ++ [⟨U, z, cur⟩]) W := fun y hy => by
  rcases List.mem_append.1 hy with hy | hy
  · exact h.top y hy
  · obtain rfl := List.mem_singleton.1 hy
    subst hr
    exact ⟨own_base hc (Nat.zero_le _), fun j hj => (hc.lt j hj).2⟩
theorem map_lnV_snoc (ys : List Ln) (U : Option Addr) (r z : Nat) (cur : List Tok) (hr : cur.length = r) : (ys ++ [(⟨U, z, cur⟩ : Ln)]).map lnV = ys.map lnV ++ [.slice U r z] := by
  subst hr
  simp [lnV]

def LinesOk (l : List Tok) (w : World) (e : Ending) (w' : World) : Prop := ∃ (ys : List Ln) (A' : Option Addr) (c' : Nat), e = .returned (.slice A' ys.length c') ∧ ys.map Ln.l = linesP l [] ∧
  w'.ownsRow w.heap.size 27 1 (.slice A' ys.length c') ys.length (ys.map lnV) ∧ (∀ y ∈ ys, RowR y w') ∧ Below w.heap.size w w'

set_option maxRecDepth 100000 in
set_option maxHeartbeats 4000000 in
theorem refLines_calls (A : Option Addr) (l : List Tok) (c : Nat) (w : World) (hA : TokAt w A l) (hl : l.length ≤ 60000) :
    Calls Tryd.prog 14 #[.slice A l.length c] w (LinesOk l w) := by
  obtain ⟨i0, hi0, hz0, hz1, hz2⟩ := info_parts' infoRef5
  obtain ⟨i1, hi1, hy0, hy1, hy2⟩ := info_parts' infoSlR
  obtain ⟨n, hn⟩ : ∃ n, l.length = n := ⟨_, rfl⟩
  rw [hn]
  have HN := Lib.hid hn
  have HA := Lib.hid hA
  have hn7 : n ≤ 60000 := by omega
  clear hn hA hl
  go_enter Tryd.func14, Tryd.ntmps14
  go_wp2
  go_loopw [3, 4, 5] (fun vo vl vk wr => ∃ (ys : List Ln) (cur : List Tok) (k m r : Nat) (V U : Option Addr) (q z : Nat) (b : Nat), vo = .slice V m q ∧ vl = .slice U r z ∧ vk = .int .i64 (k : Int) ∧
      Hid (k ≤ n ∧ ys.length = m ∧ cur.length = r ∧ m ≤ k ∧ r ≤ k ∧ w.heap.size ≤ b) ∧ Hid (ys.map Ln.l ++ linesP (l.drop k) cur = linesP l []) ∧
      Hid (wr.ownsRow w.heap.size 27 1 (.slice V m q) m (ys.map lnV)) ∧ Hid (wr.ownsRow b 44 5 (.slice U r z) r (flatT cur)) ∧ Hid (RowsB b ys wr ∧ b ≤ wr.heap.size) ∧ Hid (Below w.heap.size w wr))
    (fun _ _ vk _ => n - (intOf vk).toNat)
  case atStart =>
    refine ⟨[], [], 0, 0, 0, _, _, _, _, w.heap.size + 1, rfl, rfl, rfl, Lib.hid ⟨by omega, rfl, rfl, by omega, by omega, by omega⟩, Lib.hid (by rw [List.drop_zero]; rfl), Lib.hid ((own_empty w _ _).alloc _), Lib.hid ?_, Lib.hid ⟨fun y hy => by simp at hy, by simp⟩, Lib.hid (((Below.refl _ w).alloc (Nat.le_refl _) _).alloc (by simp) _)⟩
    have := own_empty (w.alloc (.cells #[] 27)) 44 5
    rw [World.size_alloc] at this
    exact this
  case round =>
    obtain ⟨ys, cur, k, m, r, V, U, q, z, b, rfl, rfl, rfl, HK, HLP, HO, HC, HRB, HB⟩ := hrel
    by_cases hk : k < n
    · obtain ⟨ba, off, rfl, hba, q0, q1, q2, q3, q4⟩ := tok_cells (HA.out.on HB.out) (k := k) (by rw [HN.out]; exact hk)
      obtain ⟨T, hT⟩ : ∃ T, l[k]'(by rw [HN.out]; exact hk) = T := ⟨_, rfl⟩
      have hdr : l.drop k = T :: l.drop (k + 1) := by rw [List.drop_eq_getElem_cons (by rw [HN.out]; exact hk), hT]
      rw [hT] at q0 q1 q2 q3 q4
      have hlp := HLP.out
      rw [hdr] at hlp
      simp only [linesP] at hlp
      clear hT hdr
      by_cases h3 : T.kind = 3
      · rw [if_pos h3] at hlp
        have n3 : (T.kind == 3) = true := beq_iff_eq.2 h3
        have HLP2 := Lib.hid hlp
        clear hlp h3
        have hk6 : (m : Nat) ≤ 60000 := by have := HK.out; omega
        go_wp2_with (at_builtin; refine Hid.out ?_)
        refine Lib.hid ?_
        refine wpList_append_own_at _ rfl _ _ 32 rfl w.heap.size 27 i1 _ 1 24 Tryd.underlying32 hi1 hy0 hy1 hy2 rfl (by decide) (.slice V m q) m _ rfl (HO.out.alloc _) ⟨wr.heap.size, 0, none⟩ 1 1 [.slice U r z] rfl rfl (news_at _ #[.slice U r z] _ _ rfl) (fun u hu => by obtain rfl := List.mem_singleton.1 hu; rfl) (by unfold maxLen; omega) (by omega) (Nat.le_trans HB.out.size (by simp)) ?_
        intro v' w5 ho5 hg5 _ _
        obtain ⟨V', q', rfl⟩ := own_form ho5
        have hb5 : Below w.heap.size w w5 := (HB.out.alloc HB.out.size _).grown hg5 (by have := HB.out.size; simp; omega) (fun j e => (HO.out.lt j e).1)
        have hsz5 : wr.heap.size ≤ w5.heap.size := Nat.le_trans (by simp) hg5.size
        have hrows : RowsB wr.heap.size (ys ++ [⟨U, z, cur⟩]) w5 := (((HRB.out.1).snoc HK.out.2.2.1 HC.out).alloc _).put hg5 (row_not (HO.out.alloc _) (by decide))
        have HO5 := Lib.hid (show w5.ownsRow w.heap.size 27 1 (.slice V' (m + 1) q') (m + 1) ((ys ++ [(⟨U, z, cur⟩ : Ln)]).map lnV) by rw [map_lnV_snoc _ _ _ _ _ HK.out.2.2.1]; exact ho5)
        have HR5 := Lib.hid (hrows.up hsz5)
        have HB5 := Lib.hid hb5
        have HZ5 := Lib.hid hsz5
        clear ho5 hg5 hb5 hrows hsz5
        go_wp2_with fail
        go_round
        case rel =>
          have hwz : w.heap.size ≤ w5.heap.size := HB5.out.size
          exact ⟨ys ++ [⟨U, z, cur⟩], [], k + 1, m + 1, 0, V', some ⟨w5.heap.size, 0, none⟩, q', 0, w5.heap.size, rfl, rfl, by go_num, Lib.hid ⟨by omega, by rw [List.length_append, HK.out.2.1]; rfl, rfl, by have := HK.out; omega, by omega, hwz⟩,
            Lib.hid (by rw [List.map_append, List.append_assoc]; exact HLP2.out), Lib.hid (HO5.out.alloc _), Lib.hid (own_empty w5 _ _), Lib.hid ⟨HR5.out.alloc _, by simp⟩, Lib.hid (HB5.out.alloc hwz _)⟩
        case measure => simp [intOf]; omega
      · rw [if_neg h3] at hlp
        have n3 : (T.kind == 3) = false := beq_eq_false_iff_ne.2 h3
        have HLP2 := Lib.hid hlp
        clear hlp h3
        have hk6 : (r : Nat) ≤ 60000 := by have := HK.out; omega
        go_wp2_with (at_builtin; refine Hid.out ?_)
        refine Lib.hid ?_
        refine wpList_append_own_at _ rfl _ _ 27 rfl b 44 i0 _ 5 48 Tryd.underlying27 hi0 hz0 hz1 hz2 rfl (by decide) (.slice U r z) r _ rfl (HC.out.alloc _) ⟨wr.heap.size, 0, none⟩ 1 1 T.L rfl rfl (news_at _ (tokC T) _ _ rfl) (fun u hu => flatT_one' [T] u (by rw [flatT_one]; exact hu)) (by unfold maxLen; omega) (by omega) (Nat.le_trans HRB.out.2 (by simp)) ?_
        intro v' w5 ho5 hg5 _ _
        obtain ⟨U', z', rfl⟩ := own_form ho5
        have hb5 : Below w.heap.size w w5 := (HB.out.alloc HB.out.size _).grown hg5 (by have := HB.out.size; simp; omega) (fun j e => Nat.le_trans HK.out.2.2.2.2.2 (HC.out.lt j e).1)
        have hsz5 : wr.heap.size ≤ w5.heap.size := Nat.le_trans (by simp) hg5.size
        have hrows : RowsB b ys w5 := (HRB.out.1.alloc _).kept hg5 (fun j e => (HC.out.lt j e).1)
        have hout := (HO.out.alloc (.cells (tokC T) 44)).kept hg5 (rows_ne HO.out HC.out (by decide))
        have HC5 := Lib.hid (show w5.ownsRow b 44 5 (.slice U' (r + 1) z') (r + 1) (flatT (cur ++ [T])) by rw [flatT_append, flatT_one]; exact ho5)
        have HO5 := Lib.hid hout
        have HR5 := Lib.hid hrows
        have HB5 := Lib.hid hb5
        have HZ5 := Lib.hid hsz5
        clear ho5 hg5 hb5 hrows hsz5 hout q0 q1 q2 q3 q4
        go_wp2_with fail
        go_round
        case rel =>
          exact ⟨ys, cur ++ [T], k + 1, m, r + 1, V, U', q, z', b, rfl, rfl, by go_num, Lib.hid ⟨by omega, HK.out.2.1, by rw [List.length_append, HK.out.2.2.1]; rfl, by have := HK.out; omega, by have := HK.out; omega, HK.out.2.2.2.2.2⟩,
            HLP2, HO5, HC5, Lib.hid ⟨HR5.out, Nat.le_trans HRB.out.2 HZ5.out⟩, HB5⟩
        case measure => simp [intOf]; omega
    · have hkn : k = n := by have := HK.out; omega
      subst hkn
      have hlp := HLP.out
      rw [List.drop_of_length_le (by rw [HN.out]; exact Nat.le_refl _)] at hlp
      simp only [linesP] at hlp
      by_cases hr : r = 0
      · subst hr
        have hc : cur = [] := List.length_eq_zero_iff.1 HK.out.2.2.1
        rw [if_pos hc, List.append_nil] at hlp
        have HLP2 := Lib.hid hlp
        clear hlp hc
        go_wp2_with fail
        go_ret
        have hm := HK.out.2.1
        subst hm
        exact ⟨ys, V, q, rfl, HLP2.out, HO.out, fun y hy => (HRB.out.1 y hy).1, HB.out⟩
      · have hc : cur ≠ [] := fun e => hr (by rw [← HK.out.2.2.1, e]; rfl)
        rw [if_neg hc] at hlp
        have HLP2 := Lib.hid hlp
        have hr0 : (0 : Int) < (r : Int) := by omega
        have hk6 : (m : Nat) ≤ 60000 := by have := HK.out; omega
        clear hlp hc hr
        go_wp2_with (at_builtin; refine Hid.out ?_)
        refine Lib.hid ?_
        refine wpList_append_own_at _ rfl _ _ 32 rfl w.heap.size 27 i1 _ 1 24 Tryd.underlying32 hi1 hy0 hy1 hy2 rfl (by decide) (.slice V m q) m _ rfl (HO.out.alloc _) ⟨wr.heap.size, 0, none⟩ 1 1 [.slice U r z] rfl rfl (news_at _ #[.slice U r z] _ _ rfl) (fun u hu => by obtain rfl := List.mem_singleton.1 hu; rfl) (by unfold maxLen; omega) (by omega) (Nat.le_trans HB.out.size (by simp)) ?_
        intro v' w5 ho5 hg5 _ _
        obtain ⟨V', q', rfl⟩ := own_form ho5
        have hb5 : Below w.heap.size w w5 := (HB.out.alloc HB.out.size _).grown hg5 (by have := HB.out.size; simp; omega) (fun j e => (HO.out.lt j e).1)
        have hsz5 : wr.heap.size ≤ w5.heap.size := Nat.le_trans (by simp) hg5.size
        have hrows : RowsB wr.heap.size (ys ++ [⟨U, z, cur⟩]) w5 := (((HRB.out.1).snoc HK.out.2.2.1 HC.out).alloc _).put hg5 (row_not (HO.out.alloc _) (by decide))
        have HO5 := Lib.hid (show w5.ownsRow w.heap.size 27 1 (.slice V' (m + 1) q') (m + 1) ((ys ++ [(⟨U, z, cur⟩ : Ln)]).map lnV) by rw [map_lnV_snoc _ _ _ _ _ HK.out.2.2.1]; exact ho5)
        have HR5 := Lib.hid hrows
        have HB5 := Lib.hid hb5
        clear ho5 hg5 hb5 hrows hsz5
        go_wp2_with fail
        go_ret
        have hm : (ys ++ [(⟨U, z, cur⟩ : Ln)]).length = m + 1 := by rw [List.length_append, HK.out.2.1]; rfl
        have ho := HO5.out
        refine ⟨ys ++ [⟨U, z, cur⟩], V', q', by rw [hm]; rfl, by rw [List.map_append]; exact HLP2.out, by rw [hm]; exact ho, fun y hy => (HR5.out y hy).1, HB5.out⟩
end Go.Proofs.YtonihjijienigaaDoor
