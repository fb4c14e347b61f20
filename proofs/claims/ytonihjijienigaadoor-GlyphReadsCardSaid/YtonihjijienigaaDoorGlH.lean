/- Layer 2 (glyph): Lex. -/
import Derived.Test.YtonihjijienigaaDoorGlG
import Derived.Maps.OwnIn
import Derived.RangeFuncFrom
import Derived.RangeFuncBox
namespace Go.Proofs.YtonihjijienigaaDoor
open Go.RowKit Go.Shelf
attribute [local go_sem] Oper.semAt_some

theorem kpW_trans {Bs : Nat} {A B C : World} (h : KpW Bs A B) (k : KpW Bs B C) : KpW Bs A C := ⟨fun v hv => k.1 v (h.1 v hv), h.2.trans k.2⟩
theorem kpW_put {Bs : Nat} {w : World} (W : World) (l : Nat) (o o' : Obj) (_ : w.heap.size ≤ l) (hl : W.heap[l]? = some o) (hc : o.isCells = false) (hw : o.isWalk = false) : KpW Bs W (W.putObj l o') :=
  ⟨fun v hv => cell_kept hv (grownBy_putObj' W l o') (fun r e => by cases e; exact ⟨_, hl, hc⟩), KeepsWalks.putObj _ hl hw⟩
theorem piece_size {s : ByteArray} (x : Pc s) : 0 < (pieceB s x.v).size ∧ (pieceB s x.v).size ≤ s.size := by
  have h := x.2
  unfold PieceOf at h
  have e : (pieceB s x.v).size = x.v.2 - x.v.1 := by
    unfold pieceB
    rw [ByteArray.size_extract]
    have : x.v.2 ≤ s.size := h.2
    omega
  have h1 : x.v.1 < x.v.2 := h.1
  have h2 : x.v.2 ≤ s.size := h.2
  omega

theorem wpListIn_store_row {F : Fence} {n : Nat} {P : Program} {ops : Array Oper} {rest : List Oper} {o : Oper} {a : Act} {w : World} {Q : Exit → Act → World → Prop} (hgd : o.guard = none) (ty : TypeId) (x y : Operand) (hop : o.op = .store ty x y)
    (g : Nat) (cells : Array Value) (hx : a.eval x = .pointer (some ⟨g, 0, none⟩)) (hy : a.eval y = .agg cells)
    (t : TypeId) (old : Array Value) (hg : w.heap[g]? = some (.cells old t (0, 0))) (hi : (P.info? ty).map (·.size) = some cells.size)
    (hold : old.size = cells.size) (h1 : cells.all (·.oneCell') = true)
    (h : wpListIn F n P ops Q rest (a.put o.dst undef) (w.setRow g cells)) : wpListIn F n P ops Q (o :: rest) a w := by
  refine wpListIn_plain hgd fun K hK' => ?_
  unfold Oper.wpIn
  refine ⟨?_, ?_⟩
  · simp [Oper.about, hop]
  · rw [Oper.semAt_plain F _ _ (by rw [hop]; intro c hc'; cases hc')]
    unfold execOp
    simp only [hop, hx, hy, Instr.storeAt, Instr.sureAddr, Sem.run_bind, Sem.run_pure, Result.andThen_ok, run_storeVar_row w g t ty old cells hg hi hold h1]
    exact hK' _ _ h
theorem wpListIn_store_tok {F : Fence} {n : Nat} {ops : Array Oper} {rest : List Oper} {o : Oper} {a : Act} {w : World} {Q : Exit → Act → World → Prop} (g : Nat) (old : Array Value) (t : Tok)
    (hg : w.heap[g]? = some (.cells old 39 (0, 0))) (ho : old.size = 5) (x y : Operand) (hop : o.op = .store 39 x y) (hgd : o.guard = none)
    (hx : a.eval x = .pointer (some ⟨g, 0, none⟩)) (hy : a.eval y = tokV t)
    (h : wpListIn F n Tryd.prog ops Q rest (a.put o.dst undef) (w.setRow g (tokC t))) : wpListIn F n Tryd.prog ops Q (o :: rest) a w :=
  wpListIn_store_row hgd _ x y hop g (tokC t) hx hy _ old hg infoTok ho (by simp [tokC, Value.oneCell']) h
theorem keepsOthers_setRow {W : World} {g : Nat} {old : Array Value} {t : TypeId} {fr : Nat × Nat} (cs : Array Value) (h : W.heap[g]? = some (.cells old t fr)) : KeepsOthers W (W.setRow g cs) :=
  ⟨by simp [World.setRow], fun j o ho hc => by
    have hne : j ≠ g := by rintro rfl; rw [h] at ho; cases ho; cases hc
    rw [← ho]
    simp [World.setRow, Array.getElem?_modify, Ne.symm hne]⟩
theorem keepsOthers_below {W W' : World} (h : Below W.heap.size W W') : KeepsOthers W W' :=
  ⟨h.size, fun j o ho _ => by
    have hlt : j < W.heap.size := (Array.getElem?_eq_some_iff.1 ho).1
    exact (h.block j hlt).trans ho⟩

/-- What the rounds have come to. -/
def lexS (s : ByteArray) (st : List Tok × Nat) (x : Nat × Nat) : List Tok × Nat := (st.1 ++ [tokAt s x st.2], if (readP (pieceB s x)).1.kind = 3 then st.2 + 1 else st.2)
def lexSs (s : ByteArray) (pre : List (Pc s)) : List Tok × Nat := (pre.map Pc.v).foldl (lexS s) ([], 0)
theorem lexSs_snoc (s : ByteArray) (pre : List (Pc s)) (x : Pc s) : lexSs s (pre ++ [x]) = lexS s (lexSs s pre) x.v := by
  unfold lexSs
  rw [List.map_append, List.foldl_append]
  rfl
theorem lexSs_len (s : ByteArray) (pre : List (Pc s)) : (lexSs s pre).1.length = pre.length ∧ (lexSs s pre).2 ≤ pre.length := by
  have : ∀ (l : List (Nat × Nat)) (st : List Tok × Nat), (l.foldl (lexS s) st).1.length = st.1.length + l.length ∧ (l.foldl (lexS s) st).2 ≤ st.2 + l.length := by
    intro l
    induction l with
    | nil => intro st; simp
    | cons x l ih =>
      intro st
      have := ih (lexS s st x)
      simp only [List.foldl_cons, List.length_cons]
      have e1 : (lexS s st x).1.length = st.1.length + 1 := by simp [lexS]
      have e2 : (lexS s st x).2 ≤ st.2 + 1 := by unfold lexS; simp only; split <;> omega
      omega
  have := this (pre.map Pc.v) ([], 0)
  simpa [lexSs] using this
/-- No error has come. -/
def lexFine (s : ByteArray) (pre : List (Pc s)) : Prop := ∀ rest, lexR s (pre.map Pc.v ++ rest) [] 0 = lexR s rest (lexSs s pre).1 (lexSs s pre).2
theorem lexFine_snoc (s : ByteArray) (pre : List (Pc s)) (x : Pc s) (h : lexFine s pre) (he : errAt s (lexSs s pre).1.length x.v = 0) : lexFine s (pre ++ [x]) := by
  intro rest
  rw [List.map_append, List.append_assoc, List.map_cons, List.map_nil, List.cons_append, List.nil_append, h, lexSs_snoc]
  simp only [lexR, lexS]
  rw [if_neg (by rw [he]; decide)]
theorem lexBad (s : ByteArray) (pre : List (Pc s)) (x : Pc s) (h : lexFine s pre) (he : errAt s (lexSs s pre).1.length x.v ≠ 0) (rest : List (Nat × Nat)) :
    lexR s ((pre ++ [x]).map Pc.v ++ rest) [] 0 = ([], (x.v.1 : Int), errAt s (lexSs s pre).1.length x.v) := by
  rw [List.map_append, List.append_assoc, List.map_cons, List.map_nil, List.cons_append, List.nil_append, h]
  simp only [lexR]
  rw [if_pos he]

def LexI (s : ByteArray) (w : World) (pre : List (Pc s)) (W : World) : Prop := (((((((∃ v, Boxed W (w.heap.size + 1 + 1 + 1) 23 v ∧ W.ownsRow w.heap.size 39 5 v (lexSs s pre).1.length (flatT (lexSs s pre).1) ∧ True) ∧
        Boxed W (w.heap.size + 1 + 1 + 1 + 1) 3 (.int .i64 ((lexSs s pre).2 : Nat))) ∧ Boxed W w.heap.size 23 (.slice none 0 0)) ∧ Boxed W (w.heap.size + 1) 3 (.int .i64 0)) ∧ Boxed W (w.heap.size + 1 + 1) 24 (.int .i64 0)) ∧ Boxed W (w.heap.size + 1 + 1 + 1 + 1 + 1) 9 (.string s)) ∧
        (lexFine s pre ∧ pre.length ≤ 16384)) ∧ Below w.heap.size w W
def LexX (s : ByteArray) (w : World) (c : Code) (pre : List (Pc s)) (W : World) : Prop := (((((c = .ret ∧ ∃ x y, (∀ rest, lexR s (pre.map Pc.v ++ rest) [] 0 = ([], x, y)) ∧ Boxed W (w.heap.size + 1) 3 (.int .i64 x) ∧ Boxed W (w.heap.size + 1 + 1) 24 (.int .i64 y)) ∧ Boxed W w.heap.size 23 (.slice none 0 0))))) ∧ Below w.heap.size w W
theorem lexI_own (s : ByteArray) (w : World) (B : Nat) (hB : w.heap.size ≤ B) : OwnFrom B (LexI s w) :=
  OwnFrom.and (OwnFrom.and (OwnFrom.and (OwnFrom.and (OwnFrom.and (OwnFrom.and (OwnFrom.and (Own.from (holdsRow_own w.heap.size (w.heap.size + 1 + 1 + 1) 23 39 5 (fun pre => (lexSs s pre).1.length) (fun pre => flatT (lexSs s pre).1) (fun _ _ => True)) _)
      (Own.from (boxed_own _ _ (fun pre => .int .i64 ((lexSs s pre).2 : Nat))) _)) (Own.from (boxed_own _ _ (fun _ => .slice none 0 0)) _)) (Own.from (boxed_own _ _ (fun _ => .int .i64 0)) _)) (Own.from (boxed_own _ _ (fun _ => .int .i64 0)) _)) (Own.from (boxed_own _ _ (fun _ => .string s)) _)) (ownFrom_pure _ _)) (ownFrom_below (Nat.le_refl _) hB)
theorem lexX_own (s : ByteArray) (w : World) (B : Nat) (hB : w.heap.size ≤ B) (c : Code) : OwnFrom B (LexX s w c) :=
  OwnFrom.and (OwnFrom.and (fun pre A B row hs hg hr => ⟨hs.1, by
        obtain ⟨x, y, h1, h2, h3⟩ := hs.2
        exact ⟨x, y, h1, boxed_own _ _ (fun (_ : Unit) => .int .i64 x) () A B row h2 hg (fun r e => (hr r e).2), boxed_own _ _ (fun (_ : Unit) => .int .i64 y) () A B row h3 hg (fun r e => (hr r e).2)⟩⟩)
        (Own.from (boxed_own _ _ (fun _ => .slice none 0 0)) _)) (ownFrom_below (Nat.le_refl _) hB)
theorem own_below {w w' : World} {base : Nat} {e : TypeId} {size n : Nat} {v : Value} {xs : List Value} (h : w.ownsRow base e size v n xs) (hb : Below w.heap.size w w') : w'.ownsRow base e size v n xs := by
  refine (Kept.below hb).own h (fun k hk => ?_)
  rcases h.2 with ⟨rfl, _⟩ | ⟨g, cap, cur, rfl, _, hg, _⟩
  · simp [Value.ownBlock] at hk
  · have : g = k := by simpa [Value.ownBlock] using hk
    subst this
    have := (Array.getElem?_eq_some_iff.1 hg).1
    omega
theorem flatT_one1 (t : Tok) : ∀ u ∈ t.L, u.oneCell' = true := fun u hu => flatT_one' [t] u (by rw [flatT_one]; exact hu)
theorem sne {a b : Nat} (h : a ≠ b) : some a ≠ some b := fun e => h (by injection e)

set_option maxRecDepth 100000 in
set_option maxHeartbeats 4000000 in
theorem lex_calls (s : ByteArray) (hs : s.size ≤ 65536) (w : World) (hL : LibV w) :
    Calls Tryd.prog 10 #[.string s] w fun e w' => ∃ A c, e = .returned (.tuple #[.slice A (lexP s).1.length c, .int .i64 (lexP s).2.1, .int .i64 (lexP s).2.2]) ∧
      w'.ownsRow w.heap.size 39 5 (.slice A (lexP s).1.length c) (lexP s).1.length (flatT (lexP s).1) ∧ Below w.heap.size w w' := by
  obtain ⟨LP, hlp⟩ : ∃ LP, lexP s = LP := ⟨_, rfl⟩
  rw [hlp]
  refine (callsIn_wide (n := 6)).1 ?_
  have tf : ∀ f, Fence.wide.fn f := fun _ => trivial
  obtain ⟨i0, hi0, hz0, hz1, hz2⟩ := info_parts' infoTok5
  have hsz : (s.size : Int) ≤ 65536 := by omega
  refine callsIn_of_wp_marks Tryd.func10 rfl trivial ?_ rfl
  simp only [Tryd.ntmps10, List.size_toArray, List.length_cons, List.length_nil, Nat.reduceAdd, Nat.reduceSub, Array.replicate_succ, Array.replicate_zero, List.push_toArray, List.append_toArray, List.nil_append, List.cons_append]
  gi_wp2_with ((try with_reducible refine ⟨tf _, ?_⟩); gi_at_call 19; refine (callsIn_wide.2 (pieces_calls s _)).mono ?_; rintro e w' ⟨rfl, rfl⟩)
  have bR1 := (((((Boxed.new w 23 (.slice none 0 0)).alloc (.cells #[.int .i64 0] 3)).alloc (.cells #[.int .i64 0] 24)).alloc (.cells #[.slice none 0 0] 23)).alloc (.cells #[.int .i64 0] 3)).alloc (.cells #[.string s] 9)
  have bR2 := ((((Boxed.new (w.alloc (.cells #[.slice none 0 0] 23)) 3 (.int .i64 0)).alloc (.cells #[.int .i64 0] 24)).alloc (.cells #[.slice none 0 0] 23)).alloc (.cells #[.int .i64 0] 3)).alloc (.cells #[.string s] 9)
  have bR3 := (((Boxed.new ((w.alloc (.cells #[.slice none 0 0] 23)).alloc (.cells #[.int .i64 0] 3)) 24 (.int .i64 0)).alloc (.cells #[.slice none 0 0] 23)).alloc (.cells #[.int .i64 0] 3)).alloc (.cells #[.string s] 9)
  have bL := ((Boxed.new (((w.alloc (.cells #[.slice none 0 0] 23)).alloc (.cells #[.int .i64 0] 3)).alloc (.cells #[.int .i64 0] 24)) 23 (.slice none 0 0)).alloc (.cells #[.int .i64 0] 3)).alloc (.cells #[.string s] 9)
  have bN := (Boxed.new ((((w.alloc (.cells #[.slice none 0 0] 23)).alloc (.cells #[.int .i64 0] 3)).alloc (.cells #[.int .i64 0] 24)).alloc (.cells #[.slice none 0 0] 23)) 3 (.int .i64 0)).alloc (.cells #[.string s] 9)
  have bS := Boxed.new (((((w.alloc (.cells #[.slice none 0 0] 23)).alloc (.cells #[.int .i64 0] 3)).alloc (.cells #[.int .i64 0] 24)).alloc (.cells #[.slice none 0 0] 23)).alloc (.cells #[.int .i64 0] 3)) 9 (.string s)
  have hB0 : Below w.heap.size w ((((((w.alloc (.cells #[.slice none 0 0] 23)).alloc (.cells #[.int .i64 0] 3)).alloc (.cells #[.int .i64 0] 24)).alloc (.cells #[.slice none 0 0] 23)).alloc (.cells #[.int .i64 0] 3)).alloc (.cells #[.string s] 9)) :=
    ((((((Below.refl _ w).alloc (Nat.le_refl _) _).alloc (by simp) _).alloc (by simp; omega) _).alloc (by simp; omega) _).alloc (by simp; omega) _).alloc (by simp; omega) _
  have hsz0 : ((((((w.alloc (.cells #[.slice none 0 0] 23)).alloc (.cells #[.int .i64 0] 3)).alloc (.cells #[.int .i64 0] 24)).alloc (.cells #[.slice none 0 0] 23)).alloc (.cells #[.int .i64 0] 3)).alloc (.cells #[.string s] 9)).heap.size = w.heap.size + 6 := by simp
  simp only [World.size_alloc] at bR2 bR3 bL bN bS
  obtain ⟨W0, hW0⟩ : ∃ W0, (((((w.alloc (.cells #[.slice none 0 0] 23)).alloc (.cells #[.int .i64 0] 3)).alloc (.cells #[.int .i64 0] 24)).alloc (.cells #[.slice none 0 0] 23)).alloc (.cells #[.int .i64 0] 3)).alloc (.cells #[.string s] 9) = W0 := ⟨_, rfl⟩
  rw [hW0] at bR1 bR2 bR3 bL bN bS hB0 hsz0 ⊢
  clear hW0
  obtain ⟨all, hall⟩ : ∃ all, mach s (s.size + 1) 0 (-1) false false = all := ⟨_, rfl⟩
  have hstops := pieces_stops s (by omega) 5 (by omega) (w.heap.size + 1 + 1 + 1 + 1 + 1) W0 bS.cell
  rw [hall] at hstops
  have hlx : LP = lexR s all [] 0 := by rw [← hlp]; unfold lexP; rw [if_neg (by omega), hall]
  refine wpIn_rangeFunc_ownF rfl (by omega) (gf := 28) (lb := #[.pointer (some ⟨w.heap.size + 1 + 1 + 1 + 1 + 1, 0, none⟩)]) rfl trivial (enters_of Tryd.func28 (by kernel_rfl) rfl)
    hstops (fun h k => kpW_trans h k) kpW_put (Below.refl _ _) (fun _ => rfl)
    (LexI s w)
    (LexX s w)
    (lexI_own s w _ (by omega))
    (lexX_own s w _ (by omega))
    ⟨⟨⟨⟨⟨⟨⟨⟨_, bL, World.ownsRow_nil _ _ _ _, trivial⟩, bN⟩, bR1⟩, bR2⟩, bR3⟩, bS⟩, fun rest => rfl, by simp⟩, hB0⟩
    (fun x => { tmps := #[.string s, undef, .pointer (some ⟨w.heap.size, 0, none⟩), .pointer (some ⟨w.heap.size + 1, 0, none⟩), .pointer (some ⟨w.heap.size + 1 + 1, 0, none⟩), .pointer (some ⟨w.heap.size + 1 + 1 + 1, 0, none⟩), .pointer (some ⟨w.heap.size + 1 + 1 + 1 + 1, 0, none⟩),
          .int .i64 (x.v.1 : Int), .string (s.extract x.v.1 x.v.2), undef, undef, .string s, .int .i64 s.size, .bool (decide (65536 < (s.size : Int))), .string s, .func (.func 28) #[] #[.pointer (some ⟨w.heap.size + 1 + 1 + 1 + 1 + 1, 0, none⟩)],
          .int .i64 (x.v.1 : Int), .string (s.extract x.v.1 x.v.2), undef, undef, undef, undef, undef, undef, undef, undef, undef, undef, undef, undef, undef, undef, undef, undef, undef, undef, undef, undef, undef, undef, undef, undef, undef, undef, undef, undef, undef, undef], defers := [] }) ?assign ?body ?done ?stop
  case assign =>
    intro l x W K hK
    simp only [encP]
    gi_wp2
    exact hK
  case body =>
    rintro l pre x W ⟨⟨⟨⟨⟨⟨⟨⟨v, hv, hrow, _⟩, bN1⟩, bA1⟩, bA2⟩, bA3⟩, bS1⟩, hfine, hlen⟩, hB⟩ hlt
    obtain ⟨k, hk⟩ : ∃ k, (lexSs s pre).1.length = k := ⟨_, rfl⟩
    obtain ⟨ln, hln⟩ : ∃ ln, (lexSs s pre).2 = ln := ⟨_, rfl⟩
    obtain ⟨acc, hacc⟩ : ∃ acc, (lexSs s pre).1 = acc := ⟨_, rfl⟩
    have hlens := lexSs_len s pre
    rw [hk, hln] at hlens
    have HLS := Lib.hid hlens
    clear hlens
    rw [hk, hacc] at hrow
    rw [hln] at bN1
    obtain ⟨A, c, rfl⟩ := own_form hrow
    obtain ⟨p, hp⟩ : ∃ p, pieceB s x.v = p := ⟨_, rfl⟩
    have hps := piece_size x
    rw [hp] at hps
    have hex : s.extract x.v.1 x.v.2 = p := hp
    rw [hex]
    have HRD := Lib.hid (read_calls p W (by omega) hps.1 (hL.on hB))
    obtain ⟨R, hR⟩ : ∃ R, (readP p).1 = R := ⟨_, rfl⟩
    obtain ⟨E, hE⟩ : ∃ E, (readP p).2 = E := ⟨_, rfl⟩
    rw [hR, hE] at HRD
    obtain ⟨pos, hpos⟩ : ∃ pos, x.v.1 = pos := ⟨_, rfl⟩
    rw [hpos]
    have HB := Lib.hid hB
    have HF := Lib.hid hfine
    have HLN := Lib.hid hlen
    have HRW := Lib.hid hrow
    clear hB hfine hlen hrow hlt hps
    gi_wp2_with ((try with_reducible refine ⟨tf _, ?_⟩); gi_at_call 20; refine (CallsIn.inRound l (callsIn_wide.2 HRD.out)).mono ?_; rintro e w1 ⟨rfl, hb1⟩; refine Hid.out ?_)
    refine Lib.hid ?_
    have HB1 := Lib.hid hb1
    clear hb1
    gi_wp2_with (refine wpListIn_store_tok w1.heap.size _ R (heap_alloc_new _ _) rfl _ _ rfl rfl rfl rfl ?_; refine Hid.out ?_)
    refine Lib.hid ?_
    have hB2 := below_setRow ((HB1.out).alloc HB1.out.size (.cells #[.int .i64 0, .string ⟨#[]⟩, .int .u64 0, .int .i64 0, .int .i64 0] 39)) HB1.out.size (tokC R)
    have hG2 : Blk ((w1.alloc (.cells #[.int .i64 0, .string ⟨#[]⟩, .int .u64 0, .int .i64 0, .int .i64 0] 39)).setRow w1.heap.size (tokC R)) w1.heap.size 39 (tokC R) := heap_setRow _ _ _ _ _ _ (heap_alloc_new _ _)
    obtain ⟨g, hg⟩ : ∃ g, w1.heap.size = g := ⟨_, rfl⟩
    have hgW : W.heap.size ≤ g := hg ▸ HB1.out.size
    obtain ⟨w2, hw2⟩ : ∃ w2, (w1.alloc (.cells #[.int .i64 0, .string ⟨#[]⟩, .int .u64 0, .int .i64 0, .int .i64 0] 39)).setRow w1.heap.size (tokC R) = w2 := ⟨_, rfl⟩
    rw [hw2] at hB2 hG2 ⊢
    rw [hg] at hG2 ⊢
    clear hw2
    have up : ∀ {B t v}, Boxed W B t v → Boxed w2 B t v := fun h => (hB2.block _ h.lt).trans h
    have hn4 := bN1.lt
    have hK2 := keepsOthers_below hB2
    have HB2 := Lib.hid hB2
    have HK2 := Lib.hid hK2
    have HG2 := Lib.hid hG2
    have eA1 := up bA1
    have eA2 := up bA2
    have eA3 := up bA3
    have eN := up bN1
    have eL := up hv
    have eS := up bS1
    clear up hB2 hG2 hK2
    have cL := eL.cell
    have cN := eN.cell
    have cA1 := eA1.cell
    have cA2 := eA2.cell
    have cA3 := eA3.cell
    have fA1 := eA1.frozen
    have fA2 := eA2.frozen
    have fA3 := eA3.frozen
    by_cases hbad : E = 0 ∧ k ≠ 16384
    · obtain ⟨rfl, hk6⟩ := hbad
      have n6 : ((k : Int) == 16384) = false := by simpa using (fun h : (k : Int) = 16384 => hk6 (by omega))
      gi_wp2
      have d0 : w2.drew.cell? ⟨w.heap.size + 1 + 1 + 1 + 1, 0, none⟩ = some (.int .i64 (ln : Nat)) := cN
      have d1 : ∀ v, (w2.setCell ⟨g, 3, none⟩ v).drew.cell? ⟨w.heap.size + 1 + 1 + 1 + 1, 0, none⟩ = some (.int .i64 (ln : Nat)) := fun v =>
        (World.cell?_of_block (a := ⟨w.heap.size + 1 + 1 + 1 + 1, 0, none⟩) (Below.heap_setCell w2 ⟨g, 3, none⟩ v _ (by simp only; omega))).trans cN
      have d3 : w2.drew.frozen? ⟨g, 3, none⟩ = false := HG2.out.drew.frozen 3
      have d4 : w2.drew.frozen? ⟨g, 4, none⟩ = false := HG2.out.drew.frozen 4
      have d5 : w2.drew.cell? ⟨g, 3, none⟩ = some (.int .i64 R.at_) := HG2.out.drew.cell 3
      have d6 : w2.drew.cell? ⟨g, 4, none⟩ = some (.int .i64 R.line) := HG2.out.drew.cell 4
      have d7 : ∀ v, (w2.setCell ⟨g, 3, none⟩ v).drew.frozen? ⟨g, 4, none⟩ = false := fun v => (HG2.out.set_ 3 v).drew.frozen 4
      have d8 : ∀ v, (w2.setCell ⟨g, 4, none⟩ v).drew.frozen? ⟨g, 3, none⟩ = false := fun v => (HG2.out.set_ 4 v).drew.frozen 3
      have d9 : ∀ v, (w2.setCell ⟨g, 3, none⟩ v).drew.cell? ⟨g, 4, none⟩ = some (.int .i64 R.line) := fun v => (HG2.out.set_ 3 v).drew.cell 4
      have d10 : ∀ v, (w2.setCell ⟨g, 4, none⟩ v).drew.cell? ⟨g, 3, none⟩ = some (.int .i64 R.at_) := fun v => (HG2.out.set_ 4 v).drew.cell 3
      have hmix : Tryd.prog.follows .mixedOrders = true := by kernel_rfl
      gi_region_with_o (fail)
      all_goals
        obtain ⟨T, hT⟩ : ∃ T : Tok, ({ R with at_ := pos, line := ln } : Tok) = T := ⟨_, rfl⟩
        have hG3 : Blk ((w2.setCell ⟨g, 3, none⟩ (.int .i64 pos)).setCell ⟨g, 4, none⟩ (.int .i64 (ln : Nat))).drew g 39 (tokC T) := by
          rw [← hT]; exact ((HG2.out.set_ 3 _).set_ 4 _).drew
        have far : ∀ {B t u}, Boxed w2 B t u → B ≠ g → Boxed ((w2.setCell ⟨g, 3, none⟩ (.int .i64 pos)).setCell ⟨g, 4, none⟩ (.int .i64 (ln : Nat))).drew B t u := fun h hB => ((Blk.far (p := ⟨g, 4, none⟩) (Blk.far (p := ⟨g, 3, none⟩) h hB _) hB _ : Blk _ _ _ _)).drew
        have hBW : Below W.heap.size W ((w2.setCell ⟨g, 3, none⟩ (.int .i64 pos)).setCell ⟨g, 4, none⟩ (.int .i64 (ln : Nat))).drew := ((HB2.out.setCell (p := ⟨g, 3, none⟩) hgW _).setCell (p := ⟨g, 4, none⟩) hgW _).drew
        obtain ⟨w3, hw3⟩ : ∃ w3, ((w2.setCell ⟨g, 3, none⟩ (.int .i64 pos)).setCell ⟨g, 4, none⟩ (.int .i64 (ln : Nat))).drew = w3 := ⟨_, rfl⟩
        have hn5 := bS1.lt
        have xL := far eL (by omega)
        have xN := far eN (by omega)
        have x1 := far eA1 (by omega)
        have x2 := far eA2 (by omega)
        have x3 := far eA3 (by omega)
        have xS := far eS (by omega)
        rw [hw3] at hG3 hBW xL xN x1 x2 x3 xS ⊢
        have HB3 := Lib.hid (HB.out.trans (Joins.below_le hBW HB.out.size))
        have HK3 := Lib.hid (keepsOthers_below hBW)
        have HRW3 := Lib.hid (own_below HRW.out hBW)
        have HG3 := Lib.hid hG3
        have HHT := Lib.hid hT
        have hkT : T.kind = R.kind := by rw [← hT]
        clear far d0 d1 d3 d4 d5 d6 d7 d8 d9 d10 cL cN cA1 cA2 cA3 fA1 fA2 fA3 hw3 hBW hG3
        have cN := xN.cell
        have fN := xN.frozen
        have cK : w3.cell? ⟨g, 0, none⟩ = some (.int .i64 T.kind) := HG3.out.cell 0
        have HKT := Lib.hid hkT
        clear hkT hT
        have hkb : k ≤ 16384 := by have := HLS.out; have := HLN.out; omega
        have hlb : ln ≤ 16384 := by have := HLS.out; have := HLN.out; omega
        by_cases h3 : T.kind = 3
        · have n3 : (T.kind == 3) = true := by simpa using h3
          have HH3 := Lib.hid h3
          clear h3
          have vL : Boxed (w3.setCell ⟨w.heap.size + 1 + 1 + 1 + 1, 0, none⟩ (.int .i64 ((ln : Int) + 1))) (w.heap.size + 1 + 1 + 1) 23 (.slice A k c) := xL.kept (grownBy_setCell' _ _ _) (sne (by omega))
          have vN : Boxed (w3.setCell ⟨w.heap.size + 1 + 1 + 1 + 1, 0, none⟩ (.int .i64 ((ln : Int) + 1))) (w.heap.size + 1 + 1 + 1 + 1) 3 (.int .i64 ((ln : Int) + 1)) := xN.set _
          have v1 : Boxed (w3.setCell ⟨w.heap.size + 1 + 1 + 1 + 1, 0, none⟩ (.int .i64 ((ln : Int) + 1))) w.heap.size 23 (.slice none 0 0) := x1.kept (grownBy_setCell' _ _ _) (sne (by omega))
          have v2 : Boxed (w3.setCell ⟨w.heap.size + 1 + 1 + 1 + 1, 0, none⟩ (.int .i64 ((ln : Int) + 1))) (w.heap.size + 1) 3 (.int .i64 0) := x2.kept (grownBy_setCell' _ _ _) (sne (by omega))
          have v3 : Boxed (w3.setCell ⟨w.heap.size + 1 + 1 + 1 + 1, 0, none⟩ (.int .i64 ((ln : Int) + 1))) (w.heap.size + 1 + 1) 24 (.int .i64 0) := x3.kept (grownBy_setCell' _ _ _) (sne (by omega))
          have vS : Boxed (w3.setCell ⟨w.heap.size + 1 + 1 + 1 + 1, 0, none⟩ (.int .i64 ((ln : Int) + 1))) (w.heap.size + 1 + 1 + 1 + 1 + 1) 9 (.string s) := xS.kept (grownBy_setCell' _ _ _) (sne (by omega))
          have HRW4 := Lib.hid (show World.ownsRow (w3.setCell ⟨w.heap.size + 1 + 1 + 1 + 1, 0, none⟩ (.int .i64 ((ln : Int) + 1))) w.heap.size 39 5 (.slice A k c) k (flatT acc) from HRW3.out.kept (grownBy_setCell' _ _ _) (.inr (xN.not_row (by decide) HRW3.out).symm))
          have HB4 := Lib.hid (show Below w.heap.size w (w3.setCell ⟨w.heap.size + 1 + 1 + 1 + 1, 0, none⟩ (.int .i64 ((ln : Int) + 1))) from HB3.out.setCell (p := ⟨w.heap.size + 1 + 1 + 1 + 1, 0, none⟩) (by simp; omega) _)
          have HK4 := Lib.hid (show KeepsOthers W (w3.setCell ⟨w.heap.size + 1 + 1 + 1 + 1, 0, none⟩ (.int .i64 ((ln : Int) + 1))) from HK3.out.trans (KeepsOthers.setCell _ _ _))
          have vG : Blk (w3.setCell ⟨w.heap.size + 1 + 1 + 1 + 1, 0, none⟩ (.int .i64 ((ln : Int) + 1))) g 39 (tokC T) := HG3.out.far (p := ⟨w.heap.size + 1 + 1 + 1 + 1, 0, none⟩) (by simp only; omega) _
          have q0 : World.cell? (w3.setCell ⟨w.heap.size + 1 + 1 + 1 + 1, 0, none⟩ (.int .i64 ((ln : Int) + 1))) ⟨g, 0, none⟩ = some (.int .i64 T.kind) := vG.cell 0
          have q1 : World.cell? (w3.setCell ⟨w.heap.size + 1 + 1 + 1 + 1, 0, none⟩ (.int .i64 ((ln : Int) + 1))) ⟨g, 1, none⟩ = some (.string T.text) := vG.cell 1
          have q2 : World.cell? (w3.setCell ⟨w.heap.size + 1 + 1 + 1 + 1, 0, none⟩ (.int .i64 ((ln : Int) + 1))) ⟨g, 2, none⟩ = some (.int .u64 T.num) := vG.cell 2
          have q3 : World.cell? (w3.setCell ⟨w.heap.size + 1 + 1 + 1 + 1, 0, none⟩ (.int .i64 ((ln : Int) + 1))) ⟨g, 3, none⟩ = some (.int .i64 T.at_) := vG.cell 3
          have q4 : World.cell? (w3.setCell ⟨w.heap.size + 1 + 1 + 1 + 1, 0, none⟩ (.int .i64 ((ln : Int) + 1))) ⟨g, 4, none⟩ = some (.int .i64 T.line) := vG.cell 4
          have lL := vL.cell
          gi_wp2_with (gi_at_builtin; refine Hid.out ?_)
          refine Lib.hid ?_
          refine wpListIn_append_own _ rfl _ _ 23 rfl w.heap.size 39 i0 _ 5 48 Tryd.underlying23 hi0 hz0 hz1 hz2 rfl (by decide) _ _ _ rfl (HRW4.out.alloc _) ⟨w3.heap.size, 0, none⟩ 1 1 T.L rfl rfl (news_at _ (tokC T) _ _ (by simp)) (flatT_one1 T) (by unfold maxLen; omega) (by omega) (Nat.le_trans HB4.out.size (by simp)) ?_
          intro v' w5 hown' hgrow _
          obtain ⟨g', cap', rfl⟩ := ownsRow_succ hown'
          obtain ⟨hv1, hv2, hr2, hk2, hb2⟩ := vL.appended (by decide) HRW4.out HB4.out.size (by omega) hown' hgrow
          have hc1 := hv1.cell
          have hf1 := hv1.frozen
          gi_wp2
          have HV2 := Lib.hid hv2
          have HR2 := Lib.hid hr2
          have carry : ∀ {B t u}, Boxed (w3.setCell ⟨w.heap.size + 1 + 1 + 1 + 1, 0, none⟩ (.int .i64 ((ln : Int) + 1))) B t u → t ≠ 39 → B ≠ w.heap.size + 1 + 1 + 1 → Boxed (w5.setCell ⟨w.heap.size + 1 + 1 + 1, 0, none⟩ (.slice (some ⟨g', 0, none⟩) (k + 1) cap')) B t u := fun b ht hB =>
            ((b.alloc _).kept hgrow (b.not_row ht HRW4.out)).kept (grownBy_setCell' _ _ _) (sne hB)
          have ko := HK4.out.trans hk2
          refine ⟨ko, ⟨fun u hu => ?_, ⟨ko.size, fun j o ho hw => ko.same j o ho (Obj.not_cells_of_walk hw)⟩⟩, ?_⟩
          · rw [bS1.cell] at hu; rw [← hu]; exact (carry vS (by decide) (by omega)).cell
          · have e := lexSs_snoc s pre x
            have ht : tokAt s x.v ln = T := by unfold tokAt; rw [hp, hR, hpos]; exact HHT.out
            have e1 : (lexSs s (pre ++ [x])).1 = acc ++ [T] := by rw [e]; unfold lexS; simp only; rw [hacc, hln, ht]
            have e2 : (lexSs s (pre ++ [x])).2 = ln + 1 := by rw [e]; unfold lexS; simp only; rw [hp, hR, hln, if_pos (by rw [← HKT.out]; exact HH3.out)]
            have e3 : (acc ++ [T]).length = k + 1 := by rw [List.length_append, ← hacc, hk]; rfl
            refine ⟨⟨⟨⟨⟨⟨⟨⟨_, hv2, ?_, trivial⟩, ?_⟩, carry v1 (by decide) (by omega)⟩, carry v2 (by decide) (by omega)⟩, carry v3 (by decide) (by omega)⟩, carry vS (by decide) (by omega)⟩, ?_, ?_⟩, ?_⟩
            · rw [e1, e3, flatT_append, flatT_one]; exact hr2
            · rw [e2]; exact carry vN (by decide) (by omega)
            · exact lexFine_snoc s pre x HF.out (by unfold errAt; rw [hp, hE, hk, if_neg (fun h => hk6 h.2)])
            · rw [List.length_append]; have := HLS.out; have := HLN.out; simp only [List.length_cons, List.length_nil]; omega
            · exact HB4.out.trans hb2
        · have n3 : (T.kind == 3) = false := by simpa using h3
          have HH3 := Lib.hid h3
          clear h3
          have vL : Boxed (w3) (w.heap.size + 1 + 1 + 1) 23 (.slice A k c) := xL
          have vN : Boxed (w3) (w.heap.size + 1 + 1 + 1 + 1) 3 (.int .i64 (ln : Nat)) := xN
          have v1 : Boxed (w3) w.heap.size 23 (.slice none 0 0) := x1
          have v2 : Boxed (w3) (w.heap.size + 1) 3 (.int .i64 0) := x2
          have v3 : Boxed (w3) (w.heap.size + 1 + 1) 24 (.int .i64 0) := x3
          have vS : Boxed (w3) (w.heap.size + 1 + 1 + 1 + 1 + 1) 9 (.string s) := xS
          have HRW4 := Lib.hid (show World.ownsRow (w3) w.heap.size 39 5 (.slice A k c) k (flatT acc) from HRW3.out)
          have HB4 := Lib.hid (show Below w.heap.size w (w3) from HB3.out)
          have HK4 := Lib.hid (show KeepsOthers W (w3) from HK3.out)
          have vG : Blk w3 g 39 (tokC T) := HG3.out
          have q0 : World.cell? (w3) ⟨g, 0, none⟩ = some (.int .i64 T.kind) := vG.cell 0
          have q1 : World.cell? (w3) ⟨g, 1, none⟩ = some (.string T.text) := vG.cell 1
          have q2 : World.cell? (w3) ⟨g, 2, none⟩ = some (.int .u64 T.num) := vG.cell 2
          have q3 : World.cell? (w3) ⟨g, 3, none⟩ = some (.int .i64 T.at_) := vG.cell 3
          have q4 : World.cell? (w3) ⟨g, 4, none⟩ = some (.int .i64 T.line) := vG.cell 4
          clear cK
          have lL := vL.cell
          gi_wp2_with (gi_at_builtin; refine Hid.out ?_)
          refine Lib.hid ?_
          refine wpListIn_append_own _ rfl _ _ 23 rfl w.heap.size 39 i0 _ 5 48 Tryd.underlying23 hi0 hz0 hz1 hz2 rfl (by decide) _ _ _ rfl (HRW4.out.alloc _) ⟨w3.heap.size, 0, none⟩ 1 1 T.L rfl rfl (news_at _ (tokC T) _ _ (by simp)) (flatT_one1 T) (by unfold maxLen; omega) (by omega) (Nat.le_trans HB4.out.size (by simp)) ?_
          intro v' w5 hown' hgrow _
          obtain ⟨g', cap', rfl⟩ := ownsRow_succ hown'
          obtain ⟨hv1, hv2, hr2, hk2, hb2⟩ := vL.appended (by decide) HRW4.out HB4.out.size (by omega) hown' hgrow
          have hc1 := hv1.cell
          have hf1 := hv1.frozen
          gi_wp2
          have HV2 := Lib.hid hv2
          have HR2 := Lib.hid hr2
          have carry : ∀ {B t u}, Boxed (w3) B t u → t ≠ 39 → B ≠ w.heap.size + 1 + 1 + 1 → Boxed (w5.setCell ⟨w.heap.size + 1 + 1 + 1, 0, none⟩ (.slice (some ⟨g', 0, none⟩) (k + 1) cap')) B t u := fun b ht hB =>
            ((b.alloc _).kept hgrow (b.not_row ht HRW4.out)).kept (grownBy_setCell' _ _ _) (sne hB)
          have ko := HK4.out.trans hk2
          refine ⟨ko, ⟨fun u hu => ?_, ⟨ko.size, fun j o ho hw => ko.same j o ho (Obj.not_cells_of_walk hw)⟩⟩, ?_⟩
          · rw [bS1.cell] at hu; rw [← hu]; exact (carry vS (by decide) (by omega)).cell
          · have e := lexSs_snoc s pre x
            have ht : tokAt s x.v ln = T := by unfold tokAt; rw [hp, hR, hpos]; exact HHT.out
            have e1 : (lexSs s (pre ++ [x])).1 = acc ++ [T] := by rw [e]; unfold lexS; simp only; rw [hacc, hln, ht]
            have e2 : (lexSs s (pre ++ [x])).2 = ln := by rw [e]; unfold lexS; simp only; rw [hp, hR, hln, if_neg (by rw [← HKT.out]; exact HH3.out)]
            have e3 : (acc ++ [T]).length = k + 1 := by rw [List.length_append, ← hacc, hk]; rfl
            refine ⟨⟨⟨⟨⟨⟨⟨⟨_, hv2, ?_, trivial⟩, ?_⟩, carry v1 (by decide) (by omega)⟩, carry v2 (by decide) (by omega)⟩, carry v3 (by decide) (by omega)⟩, carry vS (by decide) (by omega)⟩, ?_, ?_⟩, ?_⟩
            · rw [e1, e3, flatT_append, flatT_one]; exact hr2
            · rw [e2]; exact carry vN (by decide) (by omega)
            · exact lexFine_snoc s pre x HF.out (by unfold errAt; rw [hp, hE, hk, if_neg (fun h => hk6 h.2)])
            · rw [List.length_append]; have := HLS.out; have := HLN.out; simp only [List.length_cons, List.length_nil]; omega
            · exact HB4.out.trans hb2
    · obtain ⟨Y, hY, hY0⟩ : ∃ Y : Int, errAt s (lexSs s pre).1.length x.v = Y ∧ Y ≠ 0 := by
        refine ⟨_, rfl, ?_⟩
        unfold errAt
        rw [hp, hE, hk]
        split
        · decide
        · intro h; exact hbad ⟨h, fun h' => by rename_i hn; exact hn ⟨h, h'⟩⟩
      have hbd := lexBad s pre x HF.out (by rw [hY]; exact hY0)
      rw [hY, hpos] at hbd
      have HBD := Lib.hid hbd
      have fin : ∀ w3, w3 = ((w2.setCell ⟨w.heap.size, 0, none⟩ (.slice none 0 0)).setCell ⟨w.heap.size + 1, 0, none⟩ (.int .i64 pos)).setCell ⟨w.heap.size + 1 + 1, 0, none⟩ (.int .i64 Y) →
          KeepsOthers W w3 ∧ LexX s w .ret (pre ++ [x]) w3 := by
        rintro _ rfl
        refine ⟨((HK2.out.trans (KeepsOthers.setCell _ _ _)).trans (KeepsOthers.setCell _ _ _)).trans (KeepsOthers.setCell _ _ _), ⟨⟨rfl, _, _, HBD.out, ?_, ?_⟩, ?_⟩, ?_⟩
        · exact (((eA2.kept (grownBy_setCell' w2 w.heap.size _) (sne (by omega))).set _).kept (grownBy_setCell' _ _ _) (sne (by omega)))
        · exact ((eA3.kept (grownBy_setCell' w2 w.heap.size _) (sne (by omega))).kept (grownBy_setCell' _ _ _) (sne (by omega))).set _
        · exact ((eA1.set _).kept (grownBy_setCell' _ _ _) (sne (by omega))).kept (grownBy_setCell' _ _ _) (sne (by omega))
        · exact (((HB.out.trans (Joins.below_le HB2.out HB.out.size)).setCell (p := ⟨w.heap.size, 0, none⟩) (Nat.le_refl _) _).setCell (p := ⟨w.heap.size + 1, 0, none⟩) (by simp) _).setCell (p := ⟨w.heap.size + 1 + 1, 0, none⟩) (by simp; omega) _
      have FIN := Lib.hid fin
      clear hbd fin
      by_cases hE0 : E = 0
      · subst hE0
        have hk6 : k = 16384 := Decidable.byContradiction (fun h => hbad ⟨rfl, h⟩)
        have n6 : ((k : Int) == 16384) = true := by rw [hk6]; rfl
        have hY3 : Y = 3 := by rw [← hY]; unfold errAt; rw [hp, hE, hk, if_pos ⟨rfl, hk6⟩]
        subst hY3
        clear hbad hE hY hk6 hk
        gi_wp2
        exact FIN.out _ rfl
      · have hYE : Y = E := by rw [← hY]; unfold errAt; rw [hp, hE, if_neg (fun h => hE0 h.1)]
        subst hYE
        have n0 : (Y == 0) = false := by simpa using hY0
        have n1 : (Y != 0) = true := by simpa using hY0
        clear hbad hE hY hE0 hY0
        gi_wp2
        exact FIN.out _ rfl
  case done =>
    rintro D ys W hD hys ⟨⟨⟨⟨⟨⟨⟨⟨v, hv, hrow, _⟩, bN1⟩, bA1⟩, bA2⟩, bA3⟩, bS1⟩, hfine, hlen⟩, hB⟩ hK
    obtain ⟨acc, hacc⟩ : ∃ acc, (lexSs s ys).1 = acc := ⟨_, rfl⟩
    have hlx' : LP = (acc, 0, 0) := by
      have := hfine []
      rw [List.append_nil, hys] at this
      rw [hlx, this, ← hacc]
      rfl
    rw [hacc] at hrow
    clear hlx
    subst hlx'
    obtain ⟨A, c, rfl⟩ := own_form hrow
    have hn5 := bS1.lt
    have HB := Lib.hid hB
    have HR := Lib.hid hrow
    have HK := Lib.hid hK
    clear hB hrow hK hfine hlen hys hlp
    have cL := hv.cell
    have cA1 := bA1.cell
    have cA2 := bA2.cell
    have cA3 := bA3.cell
    have fA1 := bA1.frozen
    have fA2 := bA2.frozen
    have fA3 := bA3.frozen
    gi_wp2
    have hK' := (((KeepsOthers.setCell W ⟨w.heap.size, 0, none⟩ (.slice A acc.length c)).trans (KeepsOthers.setCell _ ⟨w.heap.size + 1, 0, none⟩ (.int .i64 0))).trans (KeepsOthers.setCell _ ⟨w.heap.size + 1 + 1, 0, none⟩ (.int .i64 0))).same D _ HK.out rfl
    have z1 := ((bA1.set (.slice A acc.length c)).kept (grownBy_setCell' _ (w.heap.size + 1) (.int .i64 0)) (sne (by omega))).kept (grownBy_setCell' _ (w.heap.size + 1 + 1) (.int .i64 0)) (sne (by omega))
    have z2 := ((bA2.kept (grownBy_setCell' _ w.heap.size (.slice A acc.length c)) (sne (by omega))).set (.int .i64 0)).kept (grownBy_setCell' _ (w.heap.size + 1 + 1) (.int .i64 0)) (sne (by omega))
    have z3 := ((bA3.kept (grownBy_setCell' _ w.heap.size (.slice A acc.length c)) (sne (by omega))).kept (grownBy_setCell' _ (w.heap.size + 1) (.int .i64 0)) (sne (by omega))).set (.int .i64 0)
    have o1 := HR.out.kept (grownBy_setCell' W w.heap.size (.slice A acc.length c)) (.inr (bA1.not_row (by decide) HR.out).symm)
    have o2 := o1.kept (grownBy_setCell' _ (w.heap.size + 1) (.int .i64 0)) (.inr ((bA2.kept (grownBy_setCell' _ w.heap.size (.slice A acc.length c)) (sne (by omega))).not_row (by decide) o1).symm)
    have o3 := o2.kept (grownBy_setCell' _ (w.heap.size + 1 + 1) (.int .i64 0)) (.inr (((bA3.kept (grownBy_setCell' _ w.heap.size (.slice A acc.length c)) (sne (by omega))).kept (grownBy_setCell' _ (w.heap.size + 1) (.int .i64 0)) (sne (by omega))).not_row (by decide) o2).symm)
    have hB3 := ((HB.out.setCell (p := ⟨w.heap.size, 0, none⟩) (Nat.le_refl _) (.slice A acc.length c)).setCell (p := ⟨w.heap.size + 1, 0, none⟩) (by simp) (.int .i64 0)).setCell (p := ⟨w.heap.size + 1 + 1, 0, none⟩) (by simp; omega) (.int .i64 0)
    have ck : ∀ {a v}, World.cell? (((W.setCell ⟨w.heap.size, 0, none⟩ (.slice A acc.length c)).setCell ⟨w.heap.size + 1, 0, none⟩ (.int .i64 0)).setCell ⟨w.heap.size + 1 + 1, 0, none⟩ (.int .i64 0)) a = some v → _ := fun {a v} h => cell_kept h (grownBy_putObj' _ D (.deferred none)) (fun r e => by cases e; exact ⟨_, hK', rfl⟩)
    refine ⟨by simp, .inl ⟨_, _, rfl, run_takeDeferred hK', ?_⟩⟩
    have c1 := ck z1.cell
    have c2 := ck z2.cell
    have c3 := ck z3.cell
    refine ⟨.tuple #[.slice A acc.length c, .int .i64 0, .int .i64 0], ?_, ⟨A, c, rfl, ownsRow_putObj o3 _ hK' rfl, hB3.trans (belowK_b (w := w) (Nat.le_refl _) _ D _ _ (by omega) hK' rfl rfl)⟩⟩
    simp [results, Tryd.f10, go_sem, c1, c2, c3]
  case stop =>
    rintro D c pre W hD hpre ⟨⟨⟨rfl, x, y, hbad, bA2, bA3⟩, bA1⟩, hB⟩ hK
    have hlx' : LP = ([], x, y) := by
      obtain ⟨rest, hr⟩ := hpre
      rw [hlx, ← hr]
      exact hbad rest
    clear hbad hlx hpre
    subst hlx'
    clear hlp
    gi_wp2
    have ck : ∀ {a v}, W.cell? a = some v → _ := fun {a v} h => cell_kept h (grownBy_putObj' _ D (.deferred none)) (fun r e => by cases e; exact ⟨_, hK, rfl⟩)
    refine ⟨by simp, .inl ⟨_, _, rfl, run_takeDeferred hK, ?_⟩⟩
    have c1 := ck bA1.cell
    have c2 := ck bA2.cell
    have c3 := ck bA3.cell
    refine ⟨.tuple #[.slice none 0 0, .int .i64 x, .int .i64 y], ?_, ⟨none, 0, rfl, World.ownsRow_nil _ _ _ _, hB.trans (belowK_b (w := w) (Nat.le_refl _) _ D _ _ (by omega) hK rfl rfl)⟩⟩
    simp [results, Tryd.f10, go_sem, c1, c2, c3]
end Go.Proofs.YtonihjijienigaaDoor
