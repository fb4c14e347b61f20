/- Layer 2 (glyph): the law's lines. -/
import Derived.Test.YtonihjijienigaaDoorGlL
namespace Go.Proofs.YtonihjijienigaaDoor
open Go.RowKit Go.Shelf
attribute [local go_sem] Oper.semAt_some

def lnV (x : Ln) : Value := .slice x.A x.l.length x.c
def takeM (most : Int) (L : List (List Tok)) : List (List Tok) := if most ≤ 0 then [] else L.take most.toNat
theorem infoSlT : (Tryd.prog.info? 23).map (fun i => (i.zero, i.size, i.bytes)) = some (some (.slice none 0 0), 1, 24) := by kernel_rfl

theorem wpListIn_append_at {F : Fence} {n : Nat} {P : Program} (w : World) {ops : Array Oper} {rest : List Oper} {o : Oper} {a : Act} {Q : Exit → Act → World → Prop}
    (hg : o.guard = none) (s x : Operand) (t : TypeId) (hop : o.op = Op.call { callee := Callee.builtin Builtin.append, args := #[s, x], argTypes := #[t, t] })
    (base : Nat) (e : TypeId) (i : TypeInfo) (z : Value) (size bytes : Nat) (h1 : P.underlying t = some (.slice e)) (h2 : P.info? e = some i) (h3 : i.zero = some z) (h4 : i.size = size) (h5 : i.bytes = bytes) (h6 : z.cells.size = size) (h7 : 0 < size)
    (v : Value) (k : Nat) (xs : List Value) (hs : a.eval s = v) (hown : w.ownsRow base e size v k xs) (ad : Addr) (m c : Nat) (news : List Value) (hx : a.eval x = .slice (some ad) m c) (hn : news.length = m * size)
    (hc : ∀ j u, news[j]? = some u → w.cell? (ad.add j) = some u) (h1c : ∀ u ∈ news, u.oneCell' = true) (b1 : k + m ≤ maxLen) (b2 : (k + m) * bytes ≤ 140737488355328) (b3 : base ≤ w.heap.size)
    (hK : ∀ v' w', w'.ownsRow base e size v' (k + m) (xs ++ news) → w.grownBy w' v.ownBlock → (v'.ownBlock = v.ownBlock ∨ v'.ownBlock = some w.heap.size) → wpListIn F n P ops Q rest (a.put o.dst v') w') :
    wpListIn F n P ops Q (o :: rest) a w := by
  refine wpListIn_plain hg fun K hK' => ?_
  obtain ⟨v', w', hrun, r1, r2, _, r3⟩ := run_append_own_at (P := P) w base t o.type e i z size bytes h1 h2 h3 h4 h5 h6 h7 v k xs hown ad m c news hn hc h1c b1 b2 b3
  unfold Oper.wpIn
  refine ⟨?_, ?_⟩
  · simp [Oper.about, hop, resolve, Target.leads, Sem.run_pure]
  · rw [Oper.semAt_plain F _ _ (by rw [hop]; intro c hc'; cases hc')]
    simp [execOp, hop, resolve, invoke, builtin, hs, hx, hrun, Result.andThen]
    exact hK' _ _ (hK v' w' r1 r2 r3)

/-- Between two rounds. -/
def LnI (w : World) (oB rB mB kB : Nat) (most : Int) (kv : Value) (pre : List Ln) (W : World) : Prop :=
  (((((∃ v, Boxed W oB 34 v ∧ W.ownsRow w.heap.size 23 1 v pre.length (pre.map lnV) ∧ v.ownBlock ≠ some kB) ∧ Boxed W rB 34 (.slice none 0 0)) ∧ Boxed W mB 3 (.int .i64 most)) ∧ Boxed W kB 23 kv) ∧
    ((pre.length : Int) < most ∧ pre.length ≤ 70001)) ∧ (∀ y ∈ pre, RowL y W) ∧ Below w.heap.size w W
def LnX (w : World) (rB : Nat) (most : Int) (c : Code) (pre : List Ln) (W : World) : Prop :=
  (c = .ret ∧ (pre.length : Int) = most) ∧ (∃ v, Boxed W rB 34 v ∧ W.ownsRow w.heap.size 23 1 v pre.length (pre.map lnV) ∧ True) ∧ (∀ y ∈ pre, RowL y W) ∧ Below w.heap.size w W
theorem rowL_own (B : Nat) : OwnFrom B (fun (pre : List Ln) W => ∀ y ∈ pre, RowL y W) := fun pre X Z row h hg hr y hy =>
  (h y hy).kept hg (by
    rcases (h y hy).2 with ⟨hv, _⟩ | ⟨g, cap, cur, hv, _, hgb, _⟩
    · left; rw [hv]; rfl
    · right
      rw [hv]
      intro e
      obtain ⟨_, o, ho, hc⟩ := hr g (by simpa [Value.ownBlock] using e.symm)
      rw [hgb] at ho; cases ho; cases hc)
theorem lnI_own (w : World) (oB rB mB kB : Nat) (most : Int) (kv : Value) (B : Nat) (hB : w.heap.size ≤ B) : OwnFrom B (LnI w oB rB mB kB most kv) :=
  OwnFrom.and (OwnFrom.and (OwnFrom.and (OwnFrom.and (OwnFrom.and (Own.from (holdsRow_own w.heap.size oB 34 23 1 (fun pre : List Ln => pre.length) (fun pre => pre.map lnV) (fun _ v => v.ownBlock ≠ some kB)) _) (Own.from (boxed_own _ _ (fun _ => .slice none 0 0)) _))
    (Own.from (boxed_own _ _ (fun _ => .int .i64 most)) _)) (Own.from (boxed_own _ _ (fun _ => kv)) _)) (ownFrom_pure _ _)) (OwnFrom.and (rowL_own _) (ownFrom_below (Nat.le_refl _) hB))
theorem lnX_own (w : World) (rB : Nat) (most : Int) (B : Nat) (hB : w.heap.size ≤ B) (c : Code) : OwnFrom B (LnX w rB most c) :=
  OwnFrom.and (ownFrom_pure _ _) (OwnFrom.and (Own.from (holdsRow_own w.heap.size rB 34 23 1 (fun pre : List Ln => pre.length) (fun pre => pre.map lnV) (fun _ _ => True)) _) (OwnFrom.and (rowL_own _) (ownFrom_below (Nat.le_refl _) hB)))
theorem rowL_grown {W W' : World} {row : Option Nat} {y : Ln} (h : RowL y W) (hg : W.grownBy W' row) (hr : ∀ r, row = some r → ∀ cs fr, W.heap[r]? ≠ some (Obj.cells cs 39 fr)) : RowL y W' :=
  World.ownsRow.kept h hg (by
    rcases h.2 with ⟨hv, _⟩ | ⟨g, cap, cur, hv, _, hgb, _⟩
    · left; rw [hv]; rfl
    · right; rw [hv]; intro e; exact hr g (by simpa [Value.ownBlock] using e.symm) _ _ hgb)

theorem own_empty_at {W : World} {base j : Nat} {e : TypeId} (size : Nat) (h : W.heap[j]? = some (.cells #[] e (0, 0))) (hb : base ≤ j) : W.ownsRow base e size (.slice (some ⟨j, 0, none⟩) 0 0) 0 [] :=
  ⟨by simp, .inr ⟨j, 0, #[], rfl, hb, h, by simp, by unfold maxLen; omega, by simp, by simp⟩⟩
theorem kpY_trans {B : Nat} {X Y Z : World} (h : KpY B X Y) (k : KpY B Y Z) : KpY B X Z := ⟨fun j cs fr hj => k.1 j cs fr (h.1 j cs fr hj), fun v hv => k.2 v (h.2 v hv)⟩
theorem kpY_put {B : Nat} {w : World} (W : World) (l : Nat) (o o' : Obj) (_ : w.heap.size ≤ l) (hl : W.heap[l]? = some o) (hc : o.isCells = false) (_ : o.isWalk = false) : KpY B W (W.putObj l o') :=
  ⟨fun j cs fr hj => (World.putObj_heap_other (by rintro rfl; rw [hl] at hj; cases hj; cases hc)).trans hj, fun v hv => by
    have hv' : W.heap[B]? = _ := hv
    exact (World.putObj_heap_other (by rintro rfl; rw [hl] at hv'; cases hv'; cases hc)).trans hv'⟩
theorem rowL_put (x : Ln) (W : World) (l : Nat) (o o' : Obj) (h : RowL x W) (hl : W.heap[l]? = some o) (hc : o.isCells = false) : RowL x (W.putObj l o') := ownsRow_putObj h o' hl hc

set_option maxRecDepth 100000 in
set_option maxHeartbeats 4000000 in
theorem lawLines_calls (A : Option Addr) (l : List Tok) (c : Nat) (most : Int) (w : World) (hA : TokAt w A l) (hnil : A = none → l = [] ∧ c = 0) (hl : l.length ≤ 70000) :
    Calls Tryd.prog 15 #[.slice A l.length c, .int .i64 most] w fun e w' => ∃ (ys : List Ln) (A' : Option Addr) (c' : Nat), e = .returned (.slice A' ys.length c') ∧ ys.map Ln.l = takeM most (linesP l []) ∧
      w'.ownsRow w.heap.size 23 1 (.slice A' ys.length c') ys.length (ys.map lnV) ∧ (∀ y ∈ ys, RowL y w') ∧ Below w.heap.size w w' := by
  by_cases hm : most ≤ 0
  · unfold takeM
    rw [if_pos hm]
    clear hA hnil hl
    go_enter Tryd.func15, Tryd.ntmps15
    go_wp2_with fail
    have c1 : World.cell? ((((w.alloc (.cells #[.int .i64 most] 3)).alloc (.cells #[.slice (some ⟨w.heap.size + 1 + 1, 0, none⟩) 0 0] 34)).alloc (.cells #[] 23)).alloc (.cells #[.slice (some ⟨w.heap.size + 1 + 1, 0, none⟩) 0 0] 34)) ⟨w.heap.size + 1, 0, none⟩ = some (.slice (some ⟨w.heap.size + 1 + 1, 0, none⟩) 0 0) := by
      have := (((Boxed.new (w.alloc (.cells #[.int .i64 most] 3)) 34 (.slice (some ⟨w.heap.size + 1 + 1, 0, none⟩) 0 0)).alloc (.cells #[] 23)).alloc (.cells #[.slice (some ⟨w.heap.size + 1 + 1, 0, none⟩) 0 0] 34)).cell
      simpa using this
    have hE : (World.heap ((((w.alloc (.cells #[.int .i64 most] 3)).alloc (.cells #[.slice (some ⟨w.heap.size + 1 + 1, 0, none⟩) 0 0] 34)).alloc (.cells #[] 23)).alloc (.cells #[.slice (some ⟨w.heap.size + 1 + 1, 0, none⟩) 0 0] 34)))[w.heap.size + 1 + 1]? = some (.cells #[] 23 (0, 0)) := by
      have := (Blk.new ((w.alloc (.cells #[.int .i64 most] 3)).alloc (.cells #[.slice (some ⟨w.heap.size + 1 + 1, 0, none⟩) 0 0] 34)) 23 #[]).alloc (.cells #[.slice (some ⟨w.heap.size + 1 + 1, 0, none⟩) 0 0] 34)
      simpa [Blk] using this
    refine bodyPost_ret (v := .slice (some ⟨w.heap.size + 1 + 1, 0, none⟩) 0 0) ?_ rfl ⟨[], some ⟨w.heap.size + 1 + 1, 0, none⟩, 0, rfl, rfl, own_empty_at 1 hE (by omega), by simp, ?_⟩
    · simp [results, Tryd.f15, go_sem, c1]
    · exact ((((Below.refl w.heap.size w).alloc (Nat.le_refl _) _).alloc (by simp) _).alloc (by simp; omega) _).alloc (by simp; omega) _
  · obtain ⟨R, hR⟩ : ∃ R, takeM most (linesP l []) = R := ⟨_, rfl⟩
    rw [hR]
    have hR' : R = (linesP l []).take most.toNat := by rw [← hR]; unfold takeM; rw [if_neg hm]
    have hm1 : 0 < most := by omega
    have HRE := Lib.hid hR'
    have hLL := linesP_len l []
    clear hR hR' hm
    refine (callsIn_wide (n := 6)).1 ?_
    have tf : ∀ f, Fence.wide.fn f := fun _ => trivial
    obtain ⟨i0, hi0, hz0, hz1, hz2⟩ := info_parts' infoSlT
    have hA1 := hA.on (((((Below.refl w.heap.size w).alloc (Nat.le_refl _) (.cells #[.int .i64 most] 3)).alloc (by simp) (.cells #[.slice none 0 0] 34)).alloc (by simp; omega) (.cells #[] 23)).alloc (by simp; omega) (.cells #[.slice (some ⟨w.heap.size + 1 + 1, 0, none⟩) 0 0] 34))
    obtain ⟨n, hn⟩ : ∃ n, l.length = n := ⟨_, rfl⟩
    have hcl := lines_calls A l c _ hA1 hnil hl
    rw [hn] at hcl ⊢
    have HLC := Lib.hid hcl
    clear hA1 hcl hA
    refine callsIn_of_wp_marks Tryd.func15 rfl trivial ?_ rfl
    simp only [Tryd.ntmps15, List.size_toArray, List.length_cons, List.length_nil, Nat.reduceAdd, Nat.reduceSub, Array.replicate_succ, Array.replicate_zero, List.push_toArray, List.append_toArray, List.nil_append, List.cons_append]
    gi_wp2_with ((try with_reducible refine ⟨tf _, ?_⟩); gi_at_call 22; refine (callsIn_wide.2 HLC.out).mono ?_; rintro e W0 ⟨B, A', c', rfl, ho, hbx, hB, hbl⟩)
    have hVz : ((((w.alloc (.cells #[.int .i64 most] 3)).alloc (.cells #[.slice none 0 0] 34)).alloc (.cells #[] 23)).alloc (.cells #[.slice (some ⟨w.heap.size + 1 + 1, 0, none⟩) 0 0] 34)).heap.size = w.heap.size + 4 := by simp
    have bM := (((Boxed.new w 3 (.int .i64 most)).alloc (.cells #[.slice none 0 0] 34)).alloc (.cells #[] 23)).alloc (.cells #[.slice (some ⟨w.heap.size + 1 + 1, 0, none⟩) 0 0] 34)
    have bR := ((Boxed.new (w.alloc (.cells #[.int .i64 most] 3)) 34 (.slice none 0 0)).alloc (.cells #[] 23)).alloc (.cells #[.slice (some ⟨w.heap.size + 1 + 1, 0, none⟩) 0 0] 34)
    have bE := (Blk.new ((w.alloc (.cells #[.int .i64 most] 3)).alloc (.cells #[.slice none 0 0] 34)) 23 #[]).alloc (.cells #[.slice (some ⟨w.heap.size + 1 + 1, 0, none⟩) 0 0] 34)
    have bO := Boxed.new (((w.alloc (.cells #[.int .i64 most] 3)).alloc (.cells #[.slice none 0 0] 34)).alloc (.cells #[] 23)) 34 (.slice (some ⟨w.heap.size + 1 + 1, 0, none⟩) 0 0)
    have hBV : Below w.heap.size w ((((w.alloc (.cells #[.int .i64 most] 3)).alloc (.cells #[.slice none 0 0] 34)).alloc (.cells #[] 23)).alloc (.cells #[.slice (some ⟨w.heap.size + 1 + 1, 0, none⟩) 0 0] 34)) := ((((Below.refl w.heap.size w).alloc (Nat.le_refl _) _).alloc (by simp) _).alloc (by simp; omega) _).alloc (by simp; omega) _
    simp only [World.size_alloc] at bR bE bO
    obtain ⟨V, hV⟩ : ∃ V, (((w.alloc (.cells #[.int .i64 most] 3)).alloc (.cells #[.slice none 0 0] 34)).alloc (.cells #[] 23)).alloc (.cells #[.slice (some ⟨w.heap.size + 1 + 1, 0, none⟩) 0 0] 34) = V := ⟨_, rfl⟩
    rw [hV] at bM bR bE bO hBV ho hB hbl hVz
    clear hV HLC
    have up : ∀ {B t v}, Boxed V B t v → Boxed W0 B t v := fun h => (hbl.block _ h.lt).trans h
    have bM0 := up bM
    have bR0 := up bR
    have bO0 := up bO
    have bE0 : W0.heap[w.heap.size + 1 + 1]? = some (.cells #[] 23 (0, 0)) := (hbl.block _ bE.lt).trans bE
    have hB0 : Below w.heap.size w W0 := hBV.trans (Joins.below_le hbl (by omega))
    have hBl := hbx.lt
    rw [← hn] at ho hbx
    have hstops := lines_stops l A' c' B hl 5 (by omega) W0 (own_base ho (Nat.zero_le _)) hbx
    clear up
    rw [hn] at hbx
    refine wpIn_rangeFunc_ownY rfl (by omega) (gf := 42) (lb := #[.pointer (some ⟨B, 0, none⟩)]) rfl trivial (enters_of Tryd.func42 (by kernel_rfl) rfl)
      hstops (fun h k => kpY_trans h k) kpY_put rowL_put (fun _ => rfl)
      (LnI w (w.heap.size + 1 + 1 + 1) (w.heap.size + 1) w.heap.size B most (.slice A' n c')) (LnX w (w.heap.size + 1) most) (lnI_own _ _ _ _ _ _ _ _ (by omega)) (lnX_own _ _ _ _ (by omega))
      ⟨⟨⟨⟨⟨⟨_, bO0, own_empty_at 1 bE0 (by omega), fun e => by simp [Value.ownBlock] at e; omega⟩, bR0⟩, bM0⟩, hbx⟩, by simpa using hm1, by simp⟩, by simp, hB0⟩
      (fun x => { tmps := #[.slice A n c, .int .i64 most, undef, .pointer (some ⟨w.heap.size, 0, none⟩), .pointer (some ⟨w.heap.size + 1, 0, none⟩), .pointer (some ⟨w.heap.size + 1 + 1 + 1, 0, none⟩), .slice x.A x.l.length x.c, .slice (some ⟨w.heap.size + 1 + 1, 0, none⟩) 0 0, .int .i64 most, .bool (decide (most ≤ 0)), undef, .slice A n c,
          .func (.func 42) #[] #[.pointer (some ⟨B, 0, none⟩)], .slice x.A x.l.length x.c, undef, undef, undef, undef, undef, undef, undef, undef, undef, undef], defers := [] }) ?assign ?body ?done ?stop
    case assign =>
      intro l x W K hK
      simp only [encLn]
      gi_wp2
      exact hK
    case body =>
      rintro lp pre x W ⟨⟨⟨⟨⟨⟨v, hv, hrow, hvb⟩, bR1⟩, bM1⟩, bK1⟩, hlt, hpl⟩, hrl, hBW⟩ hYx hlen
      obtain ⟨k, hk⟩ : ∃ k, pre.length = k := ⟨_, rfl⟩
      rw [hk] at hrow hlt hpl
      obtain ⟨A1, c1, rfl⟩ := own_form hrow
      have HRW := Lib.hid hrow
      have HVB := Lib.hid hvb
      have HBW := Lib.hid hBW
      have HK := Lib.hid hk
      have hkb : k + 1 ≤ 70001 := by omega
      have HKB := Lib.hid hkb
      clear hrow hvb hBW hk hlen hkb
      have cO := hv.cell
      have cM := bM1.cell
      gi_wp2_with (gi_at_builtin; refine Hid.out ?_)
      refine Lib.hid ?_
      refine wpListIn_append_at _ rfl (.tmp 14) (.tmp 16) 34 rfl w.heap.size 23 i0 _ 1 24 Tryd.underlying34 hi0 hz0 hz1 hz2 rfl (by decide) (.slice A1 k c1) k (pre.map lnV) rfl (HRW.out.alloc _) ⟨W.heap.size, 0, none⟩ 1 1 [lnV x] rfl rfl (cell_one_new _ _ _) (by simp [lnV, Value.oneCell']) (by unfold maxLen; omega) (by omega) (Nat.le_trans HBW.out.size (by simp)) ?_
      intro v' w5 hown' hgrow hob
      obtain ⟨g', cap', rfl⟩ := ownsRow_succ hown'
      obtain ⟨hv1, hv2, hr2, hk2, hb2⟩ := hv.appended (by decide) HRW.out HBW.out.size (by omega) hown' hgrow
      have hc1 := hv1.cell
      have hf1 := hv1.frozen
      have tk : ∀ (j : Nat) (cs : Array Value) (fr : Nat × Nat), W.heap[j]? = some (Obj.cells cs 39 fr) → (w5.setCell ⟨w.heap.size + 1 + 1 + 1, 0, none⟩ (.slice (some ⟨g', 0, none⟩) (k + 1) cap')).heap[j]? = some (Obj.cells cs 39 fr) := fun j cs fr hj => by
        have hlt := (Array.getElem?_eq_some_iff.1 hj).1
        have n1 : w.heap.size + 1 + 1 + 1 ≠ j := by
          rintro rfl
          have : W.heap[w.heap.size + 1 + 1 + 1]? = _ := hv
          rw [this] at hj
          injection hj with hj
          injection hj with _ hj
          exact absurd hj (by decide)
        have n2 : some j ≠ (Value.slice A1 k c1).ownBlock := by
          rcases HRW.out.2 with ⟨he, _⟩ | ⟨gg, cap, cur, he, _, hgg, _⟩
          · rw [he]; simp [Value.ownBlock]
          · rw [he]
            intro e
            have : j = gg := by simpa [Value.ownBlock] using e
            subst this
            rw [hgg] at hj
            injection hj with hj
            injection hj with _ hj
            exact absurd hj (by decide)
        exact (Below.heap_setCell w5 ⟨w.heap.size + 1 + 1 + 1, 0, none⟩ _ j n1.symm).trans ((hgrow.block j (by simp; omega) n2).trans ((Below.heap_alloc W _ j hlt).trans hj))
      have carry : ∀ {b t u}, Boxed W b t u → some b ≠ (Value.slice A1 k c1).ownBlock → b ≠ w.heap.size + 1 + 1 + 1 → Boxed (w5.setCell ⟨w.heap.size + 1 + 1 + 1, 0, none⟩ (.slice (some ⟨g', 0, none⟩) (k + 1) cap')) b t u := fun h hne hb =>
        ((h.alloc _).kept hgrow hne).kept (grownBy_setCell' _ _ _) (sne hb)
      have e2 := carry bR1 (bR1.not_row (by decide) HRW.out) (by omega)
      have e3 := carry bM1 (bM1.not_row (by decide) HRW.out) (by omega)
      have e4 := carry bK1 (fun e => HVB.out e.symm) (by omega)
      have hrow6 : ∀ y ∈ pre ++ [x], RowL y (w5.setCell ⟨w.heap.size + 1 + 1 + 1, 0, none⟩ (.slice (some ⟨g', 0, none⟩) (k + 1) cap')) := fun y hy => by
        rcases List.mem_append.1 hy with h | h
        · exact own_tok_keep (hrl y h) tk
        · rw [List.mem_singleton] at h
          subst h
          exact own_tok_keep hYx tk
      have hlen1 : (pre ++ [x]).length = k + 1 := by rw [List.length_append, HK.out]; rfl
      have hrow7 : World.ownsRow (w5.setCell ⟨w.heap.size + 1 + 1 + 1, 0, none⟩ (.slice (some ⟨g', 0, none⟩) (k + 1) cap')) w.heap.size 23 1 (.slice (some ⟨g', 0, none⟩) (k + 1) cap') (pre ++ [x]).length ((pre ++ [x]).map lnV) := by
        rw [hlen1, List.map_append]; exact hr2
      have hob' : (Value.slice (some ⟨g', 0, none⟩) (k + 1) cap').ownBlock ≠ some B := by
        have hBW := bK1.lt
        rcases hob with h | h
        · rw [h]; exact HVB.out
        · rw [h]; exact sne (by simp; omega)
      have hB6 := HBW.out.trans hb2
      have c6 := hv2.cell
      have m6 := e3.cell
      have r6 := e2.cell
      have fr6 := e2.frozen
      have HK2 := Lib.hid hk2
      have HT := Lib.hid tk
      have HR6 := Lib.hid hrow6
      have HR7 := Lib.hid hrow7
      have HOB := Lib.hid hob'
      have HB6 := Lib.hid hB6
      have HL1 := Lib.hid hlen1
      clear hgrow hown' hr2 hk2 hb2 tk hrow6 hrow7 hob' hB6 hlen1 hob carry hrl hYx
      have hkw : (k : Int) + 1 ≤ 70002 := by omega
      by_cases hkm : (k : Int) + 1 = most
      · have n1 : ((k : Int) + 1 == most) = true := by simpa using hkm
        have HKM := Lib.hid hkm
        clear hkm
        gi_wp2
        refine ⟨HK2.out.trans (KeepsOthers.setCell _ _ _), ⟨rfl, by rw [HL1.out]; exact_mod_cast HKM.out⟩, ⟨_, e2.set _, HR7.out.kept (grownBy_setCell' _ _ _) (.inr (e2.not_row (by decide) HR7.out).symm), trivial⟩, fun y hy => ?_, HB6.out.setCell (p := ⟨w.heap.size + 1, 0, none⟩) (by simp) _⟩
        exact World.ownsRow.kept (HR6.out y hy) (grownBy_setCell' _ _ _) (.inr (e2.not_row (by decide) (HR6.out y hy)).symm)
      · have n1 : ((k : Int) + 1 == most) = false := by simpa using hkm
        have HKM := Lib.hid hkm
        clear hkm
        gi_wp2
        refine ⟨HK2.out, ⟨HT.out, fun u hu => ?_⟩, ⟨⟨⟨⟨⟨_, hv2, HR7.out, HOB.out⟩, e2⟩, e3⟩, e4⟩, ?_, ?_⟩, HR6.out, HB6.out⟩
        · have : u = .slice A' n c' := by
            have h1 := hu.cell
            rw [bK1.cell] at h1
            exact (Option.some.inj h1).symm
          subst this
          exact e4
        · rw [HL1.out]; have := HKM.out; push_cast; omega
        · rw [HL1.out]; exact HKB.out
    case done =>
      rintro D ys W hD hys ⟨⟨⟨⟨⟨⟨v, hv, hrow, hvb⟩, bR1⟩, bM1⟩, bK1⟩, hlt, hpl⟩, hrl, hBW⟩ hK
      obtain ⟨k, hk⟩ : ∃ k, ys.length = k := ⟨_, rfl⟩
      rw [hk] at hrow hlt
      obtain ⟨A1, c1, rfl⟩ := own_form hrow
      have hRe : ys.map Ln.l = R := by
        rw [HRE.out, hys, List.take_of_length_le]
        rw [← hys, List.length_map, hk]
        omega
      have cO := hv.cell
      have cR := bR1.cell
      have fR := bR1.frozen
      have HRW := Lib.hid hrow
      have HBW := Lib.hid hBW
      have HKK := Lib.hid hK
      have HRL := Lib.hid hrl
      have HRE2 := Lib.hid hRe
      have HYS := Lib.hid hk
      clear hrow hBW hK hrl hRe hk hys hvb
      gi_wp2
      have hK' := (KeepsOthers.setCell W ⟨w.heap.size + 1, 0, none⟩ (.slice A1 k c1)).same D _ HKK.out rfl
      have z1 := bR1.set (.slice A1 k c1)
      have o1 := HRW.out.kept (grownBy_setCell' W (w.heap.size + 1) (.slice A1 k c1)) (.inr (bR1.not_row (by decide) HRW.out).symm)
      refine ⟨by simp, .inl ⟨_, _, rfl, run_takeDeferred hK', ?_⟩⟩
      have c5 := cell_kept z1.cell (grownBy_putObj' _ D (.deferred none)) (fun r e => by cases e; exact ⟨_, hK', rfl⟩)
      refine ⟨.slice A1 k c1, ?_, ys, A1, c1, by rw [HYS.out], HRE2.out, ?_, fun y hy => ?_, (HBW.out.setCell (p := ⟨w.heap.size + 1, 0, none⟩) (by simp) _).trans (belowK_b (w := w) (Nat.le_refl _) _ D _ _ (by omega) hK' rfl rfl)⟩
      · simp [results, Tryd.f15, go_sem, c5]
      · rw [HYS.out]; exact ownsRow_putObj o1 _ hK' rfl
      · exact rowL_put y _ D _ _ (World.ownsRow.kept (HRL.out y hy) (grownBy_setCell' _ _ _) (.inr (bR1.not_row (by decide) (HRL.out y hy)).symm)) hK' rfl
    case stop =>
      rintro D c pre W hD hpre ⟨⟨rfl, hlen⟩, ⟨v, hv, hrow, _⟩, hrl, hBW⟩ hK
      obtain ⟨k, hk⟩ : ∃ k, pre.length = k := ⟨_, rfl⟩
      rw [hk] at hrow hlen
      obtain ⟨A1, c1, rfl⟩ := own_form hrow
      have hRe : pre.map Ln.l = R := by
        rw [HRE.out]
        have e : most.toNat = (pre.map Ln.l).length := by rw [List.length_map, hk]; omega
        rw [e]
        exact List.prefix_iff_eq_take.1 hpre
      gi_wp2
      refine ⟨by simp, .inl ⟨_, _, rfl, run_takeDeferred hK, ?_⟩⟩
      have c5 := cell_kept hv.cell (grownBy_putObj' _ D (.deferred none)) (fun r e => by cases e; exact ⟨_, hK, rfl⟩)
      refine ⟨.slice A1 k c1, ?_, pre, A1, c1, by rw [hk], hRe, ?_, fun y hy => ?_, hBW.trans (belowK_b (w := w) (Nat.le_refl _) _ D _ _ (by omega) hK rfl rfl)⟩
      · simp [results, Tryd.f15, go_sem, c5]
      · rw [hk]; exact ownsRow_putObj hrow _ hK rfl
      · exact rowL_put y _ D _ _ (hrl y hy) hK rfl
end Go.Proofs.YtonihjijienigaaDoor
