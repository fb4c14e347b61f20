/- Layer 2 (glyph): the document's one. -/
import Derived.Test.YtonihjijienigaaDoorGlRa
import Derived.Laws.ResultCell
namespace Go.Proofs.YtonihjijienigaaDoor
open Go.RowKit

theorem infoRef : (Tryd.prog.info? 44).map (·.size) = some 5 := by kernel_rfl
theorem wpList_store_ref {ops : Array Oper} {rest : List Oper} {o : Oper} {a : Act} {w : World} {Q : Exit → Act → World → Prop} (g : Nat) (old : Array Value) (t : Tok)
    (hg : w.heap[g]? = some (.cells old 44 (0, 0))) (ho : old.size = 5) (x y : Operand) (hop : o.op = .store 44 x y) (hgd : o.guard = none)
    (hx : a.eval x = .pointer (some ⟨g, 0, none⟩)) (hy : a.eval y = tokV t)
    (h : wpList Tryd.prog ops Q rest (a.put o.dst undef) (w.setRow g (tokC t))) : wpList Tryd.prog ops Q (o :: rest) a w :=
  wpList_store_row hgd _ x y hop g (tokC t) hx hy _ old hg infoRef ho (by simp [tokC, Value.oneCell']) h
theorem ret_ref {f : Func} {p u : Tmp} (h : f.results = #[.cell p 44, .tmp u]) (tmps : Array Value) (w : World) (g : Nat) (t : Tok)
    (hp : tmps.getD p undef = .pointer (some ⟨g, 0, none⟩)) (hg : w.heap[g]? = some (.cells (tokC t) 44 (0, 0))) :
    (results f tmps).run Tryd.prog w = .ok (.tuple #[tokV t, tmps.getD u undef]) w :=
  results_row_tmp h tmps w g _ (tokC t) _ _ hp hg Tryd.underlying44 rfl infoRef
theorem results_cell_tmp3 {fn : Func} {p u v x : Tmp} {ty : TypeId} (h : fn.results = #[.cell p ty, .tmp u, .tmp v, .tmp x]) (tmps : Array Value) (P : Program) (w : World) :
    (results fn tmps).run P w =
      ((asAddr (tmps.getD p undef)).run P w).andThen fun a w₁ => ((loadVar ty a).run P w₁).andThen fun r w₂ => .ok (.tuple #[r, tmps.getD u undef, tmps.getD v undef, tmps.getD x undef]) w₂ := by
  simp only [results, h]
  simp [Sem.run_bind, Result.andThen]
theorem ret_ref3 {f : Func} {p u v x : Tmp} (h : f.results = #[.cell p 44, .tmp u, .tmp v, .tmp x]) (tmps : Array Value) (w : World) (g : Nat) (t : Tok)
    (hp : tmps.getD p undef = .pointer (some ⟨g, 0, none⟩)) (hg : w.heap[g]? = some (.cells (tokC t) 44 (0, 0))) :
    (results f tmps).run Tryd.prog w = .ok (.tuple #[tokV t, tmps.getD u undef, tmps.getD v undef, tmps.getD x undef]) w := by
  have hp' : tmps[p]?.getD undef = .pointer (some ⟨g, 0, none⟩) := by simpa using hp
  rw [results_cell_tmp3 h, hp]
  simp [asAddr, Result.andThen, run_loadVar_row w g _ _ (tokC t) _ _ hg Tryd.underlying44 rfl infoRef]
  rfl

/-- What the document's one answers. -/
def oneP (p : ByteArray) (a line : Int) : Tok × Int := (if (readP p).2 = 0 then { (readP p).1 with at_ := a, line := line } else tok0, (readP p).2)
theorem readP_word {p : ByteArray} (h : letterB ((p.get! 0).toNat : Int) = true) (hd : digitB ((p.get! 0).toNat : Int) = false) : readP p = (if 24 < p.size then tok0 else ⟨0, p, 0, 0, 0⟩, if 24 < p.size then 21 else 0) := by
  unfold readP
  rw [if_neg ?_, hd, if_neg (by decide), if_pos h]
  intro e
  rw [e] at h
  exact absurd h (by decide)
theorem readP_num {p : ByteArray} (hd : digitB ((p.get! 0).toNat : Int) = true) : readP p = numP p := by
  unfold readP
  rw [if_neg ?_, if_pos hd]
  intro e
  rw [e] at hd
  exact absurd hd (by decide)

set_option maxRecDepth 100000 in
set_option maxHeartbeats 2000000 in
theorem one_calls (p : ByteArray) (a line : Int) (w : World) (hs : p.size ≤ 70000) (h0 : 0 < p.size) (hb : beginsB ((p.get! 0).toNat : Int) = true) :
    Calls Tryd.prog 38 #[.string p, .int .i64 a, .int .i64 line] w fun e w' => e = .returned (.tuple #[tokV (oneP p a line).1, .int .i64 (oneP p a line).2]) ∧ Below w.heap.size w w' := by
  have hg0 := Utf8W.get!_of_lt p 0 h0
  have HD := Lib.hid (refDigit_calls ((p[0].toNat : Nat) : Int))
  cases hd : digitB ((p[0].toNat : Nat) : Int)
  · have hl : letterB ((p.get! 0).toNat : Int) = true := by
      unfold beginsB at hb
      rw [hg0, hd] at hb
      rw [hg0]
      simpa using hb
    have hr := readP_word hl (by rw [hg0]; exact hd)
    have HDB := Lib.hid hd
    clear hd hb hl hg0
    by_cases hz : 24 < p.size
    · have e : oneP p a line = (tok0, 21) := by unfold oneP; rw [hr, if_pos hz, if_pos hz]; rfl
      rw [e]
      have hz' : (24 : Int) < p.size := by omega
      clear e hr hz
      go_enter Tryd.func38, Tryd.ntmps38
      go_wp2_with (first | (go_at_call 48; refine (HD.out _).mono ?_; rw [HDB.out]; rintro e w' ⟨rfl, rfl⟩) | (refine wpList_store_ref w.heap.size _ tok0 (heap_alloc_new _ _) rfl _ _ rfl rfl rfl rfl ?_))
      try simp only [Exit.inBlock, Exit.then]
      refine bodyPost_ret (ret_ref rfl _ _ _ tok0 rfl (heap_setRow _ _ _ _ _ _ (heap_alloc_new _ _))) rfl ?_
      exact ⟨rfl, below_setRow ((Below.refl _ _).alloc (Nat.le_refl _) _) (Nat.le_refl _) _⟩
    · have e : oneP p a line = (⟨0, p, 0, a, line⟩, 0) := by unfold oneP; rw [hr, if_neg hz, if_neg hz]; rfl
      rw [e]
      have hz' : ¬ (24 : Int) < p.size := by omega
      clear e hr hz
      go_enter Tryd.func38, Tryd.ntmps38
      go_wp2_with (first | (go_at_call 48; refine (HD.out _).mono ?_; rw [HDB.out]; rintro e w' ⟨rfl, rfl⟩) | (refine wpList_store_ref w.heap.size _ ⟨0, p, 0, a, line⟩ (heap_alloc_new _ _) rfl _ _ rfl rfl rfl rfl ?_))
      try simp only [Exit.inBlock, Exit.then]
      refine bodyPost_ret (ret_ref rfl _ _ _ ⟨0, p, 0, a, line⟩ rfl (heap_setRow _ _ _ _ _ _ (heap_alloc_new _ _))) rfl ?_
      exact ⟨rfl, below_setRow ((Below.refl _ _).alloc (Nat.le_refl _) _) (Nat.le_refl _) _⟩
  · have hr := readP_num (p := p) (by rw [hg0]; exact hd)
    have HDB := Lib.hid hd
    have HN := Lib.hid (fun W => refNumber_calls p W hs h0)
    have HR := Lib.hid hr
    clear hd hb hg0 hr
    obtain ⟨O, hO⟩ : ∃ O, oneP p a line = O := ⟨_, rfl⟩
    rw [hO]
    have HO := Lib.hid hO
    clear hO
    go_enter Tryd.func38, Tryd.ntmps38
    go_wp2_with (go_at_call 48; refine (HD.out _).mono ?_; rw [HDB.out]; rintro e w' ⟨rfl, rfl⟩)
    refine (HN.out _).mono ?_
    rintro e w' ⟨⟨v, b, rfl, ht, hf⟩, rfl⟩
    cases b
    · have e : O = (tok0, 22) := by rw [← HO.out]; unfold oneP; rw [HR.out, hf rfl]; rfl
      subst e
      clear ht hf
      go_wp2_with (refine wpList_store_ref w.heap.size _ tok0 (heap_alloc_new _ _) rfl _ _ rfl rfl rfl rfl ?_)
      try simp only [Exit.inBlock, Exit.then]
      refine bodyPost_ret (ret_ref rfl _ _ _ tok0 rfl (heap_setRow _ _ _ _ _ _ (heap_alloc_new _ _))) rfl ?_
      exact ⟨rfl, below_setRow ((Below.refl _ _).alloc (Nat.le_refl _) _) (Nat.le_refl _) _⟩
    · have e : O = (⟨1, ⟨#[]⟩, v, a, line⟩, 0) := by rw [← HO.out]; unfold oneP; rw [HR.out, ht rfl]; rfl
      subst e
      clear ht hf
      go_wp2_with (refine wpList_store_ref w.heap.size _ ⟨1, ⟨#[]⟩, v, a, line⟩ (heap_alloc_new _ _) rfl _ _ rfl rfl rfl rfl ?_)
      try simp only [Exit.inBlock, Exit.then]
      refine bodyPost_ret (ret_ref rfl _ _ _ ⟨1, ⟨#[]⟩, v, a, line⟩ rfl (heap_setRow _ _ _ _ _ _ (heap_alloc_new _ _))) rfl ?_
      exact ⟨rfl, below_setRow ((Below.refl _ _).alloc (Nat.le_refl _) _) (Nat.le_refl _) _⟩
end Go.Proofs.YtonihjijienigaaDoor
