/- CellPlays: the document's Do. -/
import Derived.Test.YtkinnhdagdkhcaaPlaysA
namespace Go.Proofs.Ytkinnhdagdkhcaa
open Go.RowKit

/-- The two results that lie in memory are written. -/
theorem two_results {w W : World} {B2 B3 : Nat} {a b c d e : Value} (u0 u1 v0 v1 v2 : Value) (h2 : Blk W B2 31 #[a, b]) (h3 : Blk W B3 41 #[c, d, e]) (hK : Kept (fun _ => False) w W) (l2 : w.heap.size ≤ B2) (l3 : w.heap.size ≤ B3) :
    ∃ wx, wx = ((((W.setCell ⟨B2, 0, none⟩ u0).setCell ⟨B2, 1, none⟩ u1).setCell ⟨B3, 0, none⟩ v0).setCell ⟨B3, 1, none⟩ v1).setCell ⟨B3, 2, none⟩ v2 ∧ wx.cell? ⟨B2, 0, none⟩ = some u0 ∧ wx.cell? ⟨B2, 1, none⟩ = some u1 ∧
      wx.cell? ⟨B3, 0, none⟩ = some v0 ∧ wx.cell? ⟨B3, 1, none⟩ = some v1 ∧ wx.cell? ⟨B3, 2, none⟩ = some v2 ∧ Kept (fun k => k = B2 ∨ k = B3) W wx ∧ Kept (fun _ => False) w wx := by
  have hne : B2 ≠ B3 := h2.ne_ h3 (by decide)
  have x2 := (((((h2.set_ 0 u0).set_ 1 u1).far (p := ⟨B3, 0, none⟩) hne v0).far (p := ⟨B3, 1, none⟩) hne v1).far (p := ⟨B3, 2, none⟩) hne v2)
  have x3 := (((((h3.far (p := ⟨B2, 0, none⟩) hne.symm u0).far (p := ⟨B2, 1, none⟩) hne.symm u1).set_ 0 v0).set_ 1 v1).set_ 2 v2)
  · refine ⟨_, rfl, x2.cell 0, x2.cell 1, x3.cell 0, x3.cell 1, x3.cell 2, ?_, ?_⟩
    · exact (((((Kept.refl (fun k => k = B2 ∨ k = B3) W).setCell (p := ⟨B2, 0, none⟩) (.inl (.inl rfl)) _).setCell (p := ⟨B2, 1, none⟩) (.inl (.inl rfl)) _).setCell (p := ⟨B3, 0, none⟩) (.inl (.inr rfl)) _).setCell (p := ⟨B3, 1, none⟩) (.inl (.inr rfl)) _).setCell (p := ⟨B3, 2, none⟩) (.inl (.inr rfl)) _
    · exact ((((hK.setCell (p := ⟨B2, 0, none⟩) (.inr l2) _).setCell (p := ⟨B2, 1, none⟩) (.inr l2) _).setCell (p := ⟨B3, 0, none⟩) (.inr l3) _).setCell (p := ⟨B3, 1, none⟩) (.inr l3) _).setCell (p := ⟨B3, 2, none⟩) (.inr l3) _

set_option maxHeartbeats 1000000 in
theorem refDo_bad (CA : Option Addr) (m cc : Nat) (EA : Option Addr) (te ec : Nat) (cs : List (Int × Int)) (hm : cs.length = m) (who k i : Int) (o n : Int × Int) (w : World) (h : doErr cs who k i ≠ 0) :
    Calls Try.prog 13 #[xV CA m cc EA te ec, .int .i64 who, opV k i o n] w fun e w' => e = .returned (.tuple #[xV CA m cc EA te ec, outV (0, 0) false, .int .i64 (doErr cs who k i)]) ∧ Kept (fun _ => False) w w' := by
  obtain ⟨x, hx⟩ : ∃ x, x = doErr cs who k i := ⟨_, rfl⟩
  have hxb : (x != 0) = true := by rw [bne_iff_ne, hx]; exact h
  have HX := Lib.hid hx
  rw [← hx]
  clear hx h
  unfold xV opV
  go_enter Try.func13, Try.ntmps13
  go_wp2_with fail
  refine (check_calls CA m cc EA te ec cs hm who k i o n _).mono ?_
  rintro e w1 ⟨rfl, K1⟩
  have B0 : Blk w1 w.heap.size 31 #[.slice CA m cc, .slice EA te ec] := K1.blk (by repeat' (first | exact Blk.new _ _ _ | apply Blk.alloc)) (fun h => h)
  have c0 : w1.cell? ⟨w.heap.size, 0, none⟩ = some (.slice CA m cc) := B0.cell 0
  have c1 : w1.cell? ⟨w.heap.size, 1, none⟩ = some (.slice EA te ec) := B0.cell 1
  have B2 : Blk w1 (w.heap.size + 1 + 1) 31 #[.slice none 0 0, .slice none 0 0] := K1.blk ((Blk.new' _ _ _ _ (by simp)).alloc _) (fun h => h)
  have d0 : w1.cell? ⟨w.heap.size + 1 + 1, 0, none⟩ = some (.slice none 0 0) := B2.cell 0
  have d1 : w1.cell? ⟨w.heap.size + 1 + 1, 1, none⟩ = some (.slice none 0 0) := B2.cell 1
  have e0 := B2.frozen 0
  have e1 := B2.frozen 1
  have B3 : Blk w1 (w.heap.size + 1 + 1 + 1) 41 #[.int .u64 0, .int .u64 0, .bool false] := K1.blk (Blk.new' _ _ _ _ (by simp)) (fun h => h)
  have f0 : w1.cell? ⟨w.heap.size + 1 + 1 + 1, 0, none⟩ = some (.int .u64 0) := B3.cell 0
  have f1 : w1.cell? ⟨w.heap.size + 1 + 1 + 1, 1, none⟩ = some (.int .u64 0) := B3.cell 1
  have f2 : w1.cell? ⟨w.heap.size + 1 + 1 + 1, 2, none⟩ = some (.bool false) := B3.cell 2
  have g0 := B3.frozen 0
  have g1 := B3.frozen 1
  have g2 := B3.frozen 2
  have hx' := HX.out
  rw [← hx']
  have HL := Lib.hid ((Kept.refl (fun _ => False) w).alloc (.cells #[.slice CA m cc, .slice EA te ec] 31) |>.alloc (.cells #[.int .i64 k, .int .i64 i, .int .u64 o.1, .int .u64 o.2, .int .u64 n.1, .int .u64 n.2] 37) |>.alloc (.cells #[.slice none 0 0, .slice none 0 0] 31) |>.alloc (.cells #[.int .u64 0, .int .u64 0, .bool false] 41) |>.trans K1)
  have HB2 := Lib.hid B2
  have HB3 := Lib.hid B3
  clear hx' K1 B0 B2 B3
  go_wp2
  obtain ⟨wx, hwx, r0, r1, r2, r3, r4, -, hk⟩ := two_results (.slice CA m cc) (.slice EA te ec) (.int .u64 0) (.int .u64 0) (.bool false) HB2.out HB3.out HL.out (by omega) (by omega)
  rw [← hwx]
  exact bodyPost_ret (v := .tuple #[xV CA m cc EA te ec, outV (0, 0) false, .int .i64 x]) (by simp [results, Try.results13, go_sem, xV, outV, r0, r1, r2, r3, r4]) rfl ⟨rfl, hk⟩

/-- What holds all through the document's Do, when nothing is amiss. -/
structure RCore (w wx : World) (m cc te ec : Nat) (CA EA : Option Addr) (k i : Int) (o n : Int × Int) : Prop where
  kept : Kept (fun _ => False) w wx
  b0 : Blk wx w.heap.size 31 #[.slice CA m cc, .slice EA te ec]
  b1 : Blk wx (w.heap.size + 1) 37 #[.int .i64 k, .int .i64 i, .int .u64 o.1, .int .u64 o.2, .int .u64 n.1, .int .u64 n.2]
  b2 : Blk wx (w.heap.size + 1 + 1) 31 #[.slice none 0 0, .slice none 0 0]
  b3 : Blk wx (w.heap.size + 1 + 1 + 1) 41 #[.int .u64 0, .int .u64 0, .bool false]
theorem RCore.more {w wx wy : World} {m cc te ec : Nat} {CA EA : Option Addr} {k i : Int} {o n : Int × Int} (h : RCore w wx m cc te ec CA EA k i o n) (hk : Kept (fun _ => False) wx wy) : RCore w wy m cc te ec CA EA k i o n :=
  ⟨h.kept.trans hk, hk.blk h.b0 (fun h => h), hk.blk h.b1 (fun h => h), hk.blk h.b2 (fun h => h), hk.blk h.b3 (fun h => h)⟩
/-- A row that is turned, of cells or of events. -/
theorem RCore.row {w wx wy : World} {m cc te ec : Nat} {CA EA : Option Addr} {k i : Int} {o n : Int × Int} {S : Nat → Prop} (h : RCore w wx m cc te ec CA EA k i o n) (hk : Kept S wx wy) (hs : ∀ x, S x → w.heap.size + 4 ≤ x) : RCore w wy m cc te ec CA EA k i o n :=
  ⟨⟨hk.os.trans h.kept.os, hk.tape.trans h.kept.tape, hk.output.trans h.kept.output, Nat.le_trans h.kept.size hk.size, fun y hy _ => (hk.block y (Nat.lt_of_lt_of_le hy h.kept.size) (fun hS => by have := hs y hS; omega)).trans (h.kept.block y hy (fun h => h))⟩,
    hk.blk h.b0 (fun hS => by have := hs _ hS; omega), hk.blk h.b1 (fun hS => by have := hs _ hS; omega), hk.blk h.b2 (fun hS => by have := hs _ hS; omega), hk.blk h.b3 (fun hS => by have := hs _ hS; omega)⟩

theorem okB (p o : Int × Int) (k : Int) (n : Int × Int) : (becomes p k o n).2 = (k != 2 || cellEq p o) := by
  unfold becomes
  by_cases h1 : k = 1
  · subst h1; rfl
  · by_cases h2 : k = 2
    · subst h2
      by_cases h : p = o
      · simp [h, cellEq_self]
      · simp [h, cellEq_not h]
    · by_cases h3 : k = 3 <;> simp [h1, h2, h3]

section
variable {P : Program} (w : World)
/-- append of nothing, as a step of a region that draws. -/
theorem step_append_nil {ops : Array Oper} {o : Oper} {a : Act} {K : Act → World → Prop} {Q : Exit → Act → World → Prop} {F : Prop} (hgd : o.guard = none) (s x : Operand) (t : TypeId)
    (ho : o.op = .call { callee := .builtin .append, args := #[s, x], argTypes := #[t, t] }) (e : TypeId) (i : TypeInfo) (ht : P.underlying t = some (.slice e)) (hi : P.info? e = some i)
    (g n cap c : Nat) (hs : a.eval s = .slice (some ⟨g, 0, none⟩) n cap) (hx : a.eval x = .slice none 0 c) (hnc : n ≤ cap) (h : K (a.put o.dst (.slice (some ⟨g, 0, none⟩) n cap)) w) :
    if Region.wanted o (yielded ops a.tmps) = true then Oper.wp P o a w K Q else F := by
  have hw : Region.wanted o (yielded ops a.tmps) = true := by simp [Region.wanted, hgd]
  rw [if_pos hw]
  have hrun : (Builtin.append_ #[t, t] o.type #[.slice (some ⟨g, 0, none⟩) n cap, .slice none 0 c]).run P w = .ok (.slice (some ⟨g, 0, none⟩) n cap) w := by
    simp [Builtin.append_, run_underlying ht, sizeOf, typeInfo, hi, Builtin.lenOf, Builtin.firstCells, hnc, storeCells]
  unfold Oper.wp execOp
  simp only [ho, resolve, invoke, builtin, Sem.run_bind, Sem.run_pure, Result.andThen_ok, List.map_toArray, List.map_cons, List.map_nil, hs, hx, hrun]
  exact h
/-- append to a row of the call's own, as a step of a region that draws; where the new row lies. -/
theorem step_append_at {ops : Array Oper} {o : Oper} {a : Act} {K : Act → World → Prop} {Q : Exit → Act → World → Prop} {F : Prop} (hgd : o.guard = none) (s x : Operand) (t : TypeId)
    (ho : o.op = .call { callee := .builtin .append, args := #[s, x], argTypes := #[t, t] })
    (base : Nat) (e : TypeId) (i : TypeInfo) (z : Value) (size bytes : Nat) (ht : P.underlying t = some (.slice e)) (hi : P.info? e = some i) (hz : i.zero = some z)
    (hsize : i.size = size) (hby : i.bytes = bytes) (hzs : z.cells.size = size) (hsz : 0 < size)
    (v : Value) (n : Nat) (xs : List Value) (hs : a.eval s = v) (hown : w.ownsRow base e size v n xs)
    (ad : Addr) (m c : Nat) (news : List Value) (hx : a.eval x = .slice (some ad) m c) (hl : news.length = m * size) (hnews : ∀ j u, news[j]? = some u → w.cell? (ad.add j) = some u) (h1 : ∀ u ∈ news, u.oneCell' = true)
    (h63 : n + m ≤ maxLen) (hbytes : (n + m) * bytes ≤ 140737488355328) (hbase : base ≤ w.heap.size)
    (h : ∀ A c' w', w'.ownsRow base e size (.slice A (n + m) c') (n + m) (xs ++ news) → w.grownBy w' v.ownBlock → ((Value.slice A (n + m) c').ownBlock = v.ownBlock ∨ (Value.slice A (n + m) c').ownBlock = some w.heap.size) → K (a.put o.dst (.slice A (n + m) c')) w') :
    if Region.wanted o (yielded ops a.tmps) = true then Oper.wp P o a w K Q else F := by
  have hw : Region.wanted o (yielded ops a.tmps) = true := by simp [Region.wanted, hgd]
  rw [if_pos hw]
  obtain ⟨v', w', hr, h2, h3, _, h5⟩ := run_append_own_at (P := P) w base t o.type e i z size bytes ht hi hz hsize hby hzs hsz v n xs hown ad m c news hl hnews h1 h63 hbytes hbase
  obtain ⟨A, c', rfl⟩ := own_form h2
  unfold Oper.wp execOp
  simp only [ho, resolve, invoke, builtin, Sem.run_bind, Sem.run_pure, Result.andThen_ok, List.map_toArray, List.map_cons, List.map_nil, hs, hx, hr]
  exact h A c' w' h2 h3 h5
/-- append to a new row of nothing, as a step of a region that draws. -/
theorem step_append_new {ops : Array Oper} {o : Oper} {a : Act} {K : Act → World → Prop} {Q : Exit → Act → World → Prop} {F : Prop} (hgd : o.guard = none) (s x : Operand) (t : TypeId)
    (ho : o.op = .call { callee := .builtin .append, args := #[s, x], argTypes := #[t, t] })
    (e : TypeId) (i : TypeInfo) (z : Value) (size bytes : Nat) (ht : P.underlying t = some (.slice e)) (hi : P.info? e = some i) (hz : i.zero = some z)
    (hsize : i.size = size) (hby : i.bytes = bytes) (hzs : z.cells.size = size) (hsz : 0 < size)
    (g0 : Nat) (hs : a.eval s = .slice (some ⟨g0, 0, none⟩) 0 0) (hown : w.ownsRow 0 e size (.slice (some ⟨g0, 0, none⟩) 0 0) 0 [])
    (ad : Addr) (m c : Nat) (news : List Value) (hx : a.eval x = .slice (some ad) m c) (hl : news.length = m * size) (hnews : ∀ j u, news[j]? = some u → w.cell? (ad.add j) = some u) (h1 : ∀ u ∈ news, u.oneCell' = true)
    (h63 : m ≤ maxLen) (hbytes : m * bytes ≤ 140737488355328)
    (h : ∀ A c' w', w'.ownsRow 0 e size (.slice A m c') m news → w.grownBy w' (Value.slice (some ⟨g0, 0, none⟩) 0 0).ownBlock → ((Value.slice A m c').ownBlock = (Value.slice (some ⟨g0, 0, none⟩) 0 0).ownBlock ∨ (Value.slice A m c').ownBlock = some w.heap.size) → K (a.put o.dst (.slice A m c')) w') :
    if Region.wanted o (yielded ops a.tmps) = true then Oper.wp P o a w K Q else F := by
  refine step_append_at w hgd s x t ho 0 e i z size bytes ht hi hz hsize hby hzs hsz _ 0 [] hs hown ad m c news hx hl hnews h1 (by rwa [Nat.zero_add]) (by rwa [Nat.zero_add]) (Nat.zero_le _) ?_
  intro A c' w' h1 h2 h3
  rw [Nat.zero_add] at h1 h3
  rw [Nat.zero_add]
  rw [List.nil_append] at h1
  exact h A c' w' h1 h2 h3
end

theorem eight_of {W : World} {B G : Nat} {x0 x1 x2 x3 x4 x5 y0 y1 : Value} (h : Blk W B 37 #[x0, x1, x2, x3, x4, x5]) (h' : Blk W G 35 #[y0, y1]) :
    W.cell? ⟨B, 0, none⟩ = some x0 ∧ W.cell? ⟨B, 1, none⟩ = some x1 ∧ W.cell? ⟨B, 2, none⟩ = some x2 ∧ W.cell? ⟨B, 3, none⟩ = some x3 ∧ W.cell? ⟨B, 4, none⟩ = some x4 ∧ W.cell? ⟨B, 5, none⟩ = some x5 ∧
      W.cell? ⟨G, 0, none⟩ = some y0 ∧ W.cell? ⟨G, 1, none⟩ = some y1 := ⟨h.cell 0, h.cell 1, h.cell 2, h.cell 3, h.cell 4, h.cell 5, h'.cell 0, h'.cell 1⟩

theorem grown_fresh {w0 w w' : World} {row : Option Nat} (h : Kept (fun _ => False) w0 w) (hg : w.grownBy w' row) (hr : ∀ x, row = some x → w0.heap.size ≤ x) : Kept (fun _ => False) w0 w' :=
  ⟨hg.os.trans h.os, hg.tape.trans h.tape, hg.output.trans h.output, Nat.le_trans h.size hg.size, fun k hk _ => (hg.block k (Nat.lt_of_lt_of_le hk h.size) (fun e => by have := hr k e.symm; omega)).trans (h.block k hk (fun h => h))⟩
theorem fresh_at {w0 w : World} {v v' : Value} (h : Kept (fun _ => False) w0 w) (hv : ∀ x, v.ownBlock = some x → w0.heap.size ≤ x) (hat : v'.ownBlock = v.ownBlock ∨ v'.ownBlock = some w.heap.size) : ∀ x, v'.ownBlock = some x → w0.heap.size ≤ x := by
  intro x hx
  rcases hat with h' | h' <;> rw [h'] at hx
  · exact hv x hx
  · injection hx with hx
    have := h.size
    omega
theorem own_z {w0 : World} {n : Nat} (hn : w0.heap.size ≤ n) : ∀ x, (Value.slice (some ⟨n, 0, none⟩) 0 0).ownBlock = some x → w0.heap.size ≤ x := by
  intro x hx
  simp [Value.ownBlock] at hx
  omega
theorem ownsRow_empty' (w : World) (e : TypeId) (size n : Nat) (hn : n = w.heap.size) : (w.alloc (.cells #[] e)).ownsRow 0 e size (.slice (some ⟨n, 0, none⟩) 0 0) 0 [] := hn ▸ ownsRow_empty w e size
theorem own_drew {w : World} {base : Nat} {e : TypeId} {size n : Nat} {v : Value} {xs : List Value} (h : w.ownsRow base e size v n xs) : w.drew.ownsRow base e size v n xs := h
theorem news_past (w : World) (cs : Array Value) (t : TypeId) (o : Obj) : ∀ j u, cs.toList[j]? = some u → ((w.alloc (.cells cs t)).alloc o).cell? ((⟨w.heap.size, 0, none⟩ : Addr).add j) = some u := by
  intro j u hu
  have h := World.news_at w cs t w.heap.size rfl j u hu
  exact (World.cell?_alloc_lt _ o _ (World.block_lt_of_cell? _ _ h)).trans h
theorem news_grown {w w' : World} {row : Option Nat} {n : Nat} {l : List Value} (hg : w.grownBy w' row) (hne : some n ≠ row) (h : ∀ j u, l[j]? = some u → w.cell? ((⟨n, 0, none⟩ : Addr).add j) = some u) : ∀ j u, l[j]? = some u → w'.cell? ((⟨n, 0, none⟩ : Addr).add j) = some u := by
  intro j u hu
  exact hg.cell (h j u hu) (by unfold Addr.add; split <;> exact hne)

theorem two_set (W : World) (B2 B3 : Nat) (u0 u1 : Value) : Kept (fun k => k = B2 ∨ k = B3) W ((W.setCell ⟨B2, 0, none⟩ u0).setCell ⟨B2, 1, none⟩ u1) := (((Kept.refl _ _).setCell (p := ⟨B2, 0, none⟩) (.inl (.inl rfl)) _).setCell (p := ⟨B2, 1, none⟩) (.inl (.inl rfl)) _)
theorem five_set (W : World) (B2 B3 : Nat) (u0 u1 v0 v1 v2 : Value) : Kept (fun k => k = B2 ∨ k = B3) W (((((W.setCell ⟨B2, 0, none⟩ u0).setCell ⟨B2, 1, none⟩ u1).setCell ⟨B3, 0, none⟩ v0).setCell ⟨B3, 1, none⟩ v1).setCell ⟨B3, 2, none⟩ v2) :=
  (((two_set W B2 B3 u0 u1).setCell (p := ⟨B3, 0, none⟩) (.inl (.inr rfl)) _).setCell (p := ⟨B3, 1, none⟩) (.inl (.inr rfl)) _).setCell (p := ⟨B3, 2, none⟩) (.inl (.inr rfl)) _
theorem news_ab (w : World) (z : Obj) (who k i : Int) (o n p : Int × Int) (ok : Bool) (t : TypeId) (N : Nat) (hN : N = (w.alloc z).heap.size) : ∀ j u, (eventL who k i o n p ok)[j]? = some u →
    (((w.alloc z).alloc (.cells #[.int .i64 who, .int .i64 k, .int .i64 i, .int .u64 o.1, .int .u64 o.2, .int .u64 n.1, .int .u64 n.2, .int .u64 p.1, .int .u64 p.2, .bool ok] t)).drew).cell? ((⟨N, 0, none⟩ : Addr).add j) = some u := World.news_at (w.alloc z) #[.int .i64 who, .int .i64 k, .int .i64 i, .int .u64 o.1, .int .u64 o.2, .int .u64 n.1, .int .u64 n.2, .int .u64 p.1, .int .u64 p.2, .bool ok] t N hN
theorem news_c (w : World) (z : Obj) (who k i : Int) (o n p : Int × Int) (ok : Bool) (t : TypeId) : ∀ j u, (eventL who k i o n p ok)[j]? = some u →
    (((w.alloc (.cells #[.int .i64 who, .int .i64 k, .int .i64 i, .int .u64 o.1, .int .u64 o.2, .int .u64 n.1, .int .u64 n.2, .int .u64 p.1, .int .u64 p.2, .bool ok] t)).alloc z).drew).cell? ((⟨w.heap.size, 0, none⟩ : Addr).add j) = some u := news_past w #[.int .i64 who, .int .i64 k, .int .i64 i, .int .u64 o.1, .int .u64 o.2, .int .u64 n.1, .int .u64 n.2, .int .u64 p.1, .int .u64 p.2, .bool ok] t z
theorem own_ab (w : World) (e : TypeId) (size : Nat) (o : Obj) : (((w.alloc (.cells #[] e)).alloc o).drew).ownsRow 0 e size (.slice (some ⟨w.heap.size, 0, none⟩) 0 0) 0 [] := (ownsRow_empty w e size).alloc o
theorem own_c (w : World) (e : TypeId) (size : Nat) (o : Obj) (N : Nat) (hN : N = (w.alloc o).heap.size) : (((w.alloc o).alloc (.cells #[] e)).drew).ownsRow 0 e size (.slice (some ⟨N, 0, none⟩) 0 0) 0 [] := ownsRow_empty' (w.alloc o) e size N hN

theorem own_a (w : World) (e : TypeId) (size : Nat) : ((w.alloc (.cells #[] e)).drew).ownsRow 0 e size (.slice (some ⟨w.heap.size, 0, none⟩) 0 0) 0 [] := ownsRow_empty w e size
theorem news_d (w : World) (who k i : Int) (o n p : Int × Int) (ok : Bool) (t : TypeId) : ∀ j u, (eventL who k i o n p ok)[j]? = some u →
    (w.alloc (.cells #[.int .i64 who, .int .i64 k, .int .i64 i, .int .u64 o.1, .int .u64 o.2, .int .u64 n.1, .int .u64 n.2, .int .u64 p.1, .int .u64 p.2, .bool ok] t)).cell? ((⟨w.heap.size, 0, none⟩ : Addr).add j) = some u := World.news_at w #[.int .i64 who, .int .i64 k, .int .i64 i, .int .u64 o.1, .int .u64 o.2, .int .u64 n.1, .int .u64 n.2, .int .u64 p.1, .int .u64 p.2, .bool ok] t w.heap.size rfl
theorem ne_ab (n : Nat) : some (n + 1) ≠ (Value.slice (some ⟨n, 0, none⟩) 0 0).ownBlock := by simp [Value.ownBlock]
theorem ne_c (n : Nat) : some n ≠ (Value.slice (some ⟨n + 1, 0, none⟩) 0 0).ownBlock := by simp [Value.ownBlock]

/-- All cells that the return of the document's Do reads. -/
def RS (B0 B1 G m cc te ec : Nat) (CA EA : Option Addr) (k i : Int) (o n p : Int × Int) (ok : Bool) (W : World) : Prop :=
  W.cell? ⟨B0, 0, none⟩ = some (.slice CA m cc) ∧ W.cell? ⟨B0, 1, none⟩ = some (.slice EA te ec) ∧ W.cell? ⟨B1, 0, none⟩ = some (.int .i64 k) ∧ W.cell? ⟨B1, 1, none⟩ = some (.int .i64 i) ∧ W.cell? ⟨B1, 2, none⟩ = some (.int .u64 o.1) ∧ W.cell? ⟨B1, 3, none⟩ = some (.int .u64 o.2) ∧
  W.cell? ⟨B1, 4, none⟩ = some (.int .u64 n.1) ∧ W.cell? ⟨B1, 5, none⟩ = some (.int .u64 n.2) ∧ W.cell? ⟨G, 0, none⟩ = some (.int .u64 p.1) ∧ W.cell? ⟨G, 1, none⟩ = some (.int .u64 p.2) ∧ W.cell? ⟨G, 2, none⟩ = some (.bool ok)
theorem RS.of {w W0 W : World} {m cc te ec G : Nat} {CA EA : Option Addr} {k i : Int} {o n p : Int × Int} {ok : Bool} (h : RCore w W0 m cc te ec CA EA k i o n) (hG : Blk W0 G 41 #[.int .u64 p.1, .int .u64 p.2, .bool ok]) {S : Nat → Prop} (hk : Kept S W0 W)
    (h0 : ¬ S w.heap.size) (h1 : ¬ S (w.heap.size + 1)) (h2 : ¬ S G) : RS w.heap.size (w.heap.size + 1) G m cc te ec CA EA k i o n p ok W :=
  have b0 := hk.blk h.b0 h0
  have b1 := hk.blk h.b1 h1
  have b2 := hk.blk hG h2
  ⟨b0.cell 0, b0.cell 1, b1.cell 0, b1.cell 1, b1.cell 2, b1.cell 3, b1.cell 4, b1.cell 5, b2.cell 0, b2.cell 1, b2.cell 2⟩

theorem blk_ge {A : Option Addr} {n c N M : Nat} (V : ∀ x, (Value.slice A n c).ownBlock = some x → N ≤ x) (h : M ≤ N) : ∀ x, A = some x → M ≤ x.block := fun x hx => Nat.le_trans h (V x.block (by subst hx; rfl))
theorem fin_do {w wc w5 : World} {m cc te ec : Nat} {CA EA : Option Addr} {k : Int} {i : Int} {o n p : Int × Int} {g2 c2 n5 : Nat} {cs' : List (Int × Int)} {E' : List EvD} {EA5 : Option Addr} {ec5 : Nat} (ok : Bool)
    (R : RCore w wc m cc te ec CA EA k i o n) (RW : RowC wc g2 c2 cs') (K5 : Kept (fun _ => False) wc w5) (V5 : ∀ x, (Value.slice EA5 n5 ec5).ownBlock = some x → wc.heap.size ≤ x) (h5 : w5.ownsRow 0 57 10 (.slice EA5 n5 ec5) n5 (flatE E')) (hn : E'.length = n5) :
    ∃ wx, wx = ((((w5.setCell ⟨w.heap.size + 1 + 1, 0, none⟩ (.slice (some ⟨g2, 0, none⟩) cs'.length c2)).setCell ⟨w.heap.size + 1 + 1, 1, none⟩ (.slice EA5 n5 ec5)).setCell ⟨w.heap.size + 1 + 1 + 1, 0, none⟩ (.int .u64 p.1)).setCell ⟨w.heap.size + 1 + 1 + 1, 1, none⟩ (.int .u64 p.2)).setCell ⟨w.heap.size + 1 + 1 + 1, 2, none⟩ (.bool ok) ∧
      wx.cell? ⟨w.heap.size + 1 + 1, 0, none⟩ = some (.slice (some ⟨g2, 0, none⟩) cs'.length c2) ∧ wx.cell? ⟨w.heap.size + 1 + 1, 1, none⟩ = some (.slice EA5 n5 ec5) ∧
      wx.cell? ⟨w.heap.size + 1 + 1 + 1, 0, none⟩ = some (.int .u64 p.1) ∧ wx.cell? ⟨w.heap.size + 1 + 1 + 1, 1, none⟩ = some (.int .u64 p.2) ∧ wx.cell? ⟨w.heap.size + 1 + 1 + 1, 2, none⟩ = some (.bool ok) ∧ XRep wx (some ⟨g2, 0, none⟩) c2 EA5 ec5 cs' E' ∧ Kept (fun _ => False) w wx := by
  subst hn
  obtain ⟨wx, hwx, r0, r1, r2, r3, r4, hkk, hk⟩ := two_results (.slice (some ⟨g2, 0, none⟩) cs'.length c2) (.slice EA5 E'.length ec5) (.int .u64 p.1) (.int .u64 p.2) (.bool ok) (K5.blk R.b2 (fun h => h)) (K5.blk R.b3 (fun h => h)) (R.kept.trans K5) (by omega) (by omega)
  have l2 := R.b2.lt
  have l3 := R.b3.lt
  obtain ⟨cur, hb, hr⟩ := RW
  have e2 := hb.ne_ R.b2 (by decide)
  have e3 := hb.ne_ R.b3 (by decide)
  have RW5 : RowC w5 g2 c2 cs' := ⟨cur, K5.blk hb (fun h => h), hr⟩
  refine ⟨wx, hwx, r0, r1, r2, r3, r4, ⟨hkk.own RW5.own ?_, hkk.own h5 ?_⟩, hk⟩
  · intro x hx
    simp only [Value.ownBlock, Option.some.injEq] at hx
    subst hx
    rintro (h | h)
    · exact e2 h
    · exact e3 h
  · intro x hx
    have := V5 x hx
    omega

set_option maxHeartbeats 4000000 in
theorem refDo_ok (g cc : Nat) (EA : Option Addr) (ec m te : Nat) (cs : List (Int × Int)) (E : List EvD) (who k : Int) (i : Nat) (o n p : Int × Int) (w : World) (hX : XRep w (some ⟨g, 0, none⟩) cc EA ec cs E) (hw0 : 0 ≤ who) (hw7 : who < 8) (h0 : 0 ≤ k) (h3 : k ≤ 3)
    (hp : cs[i]? = some p) (hm : cs.length = m) (hte : E.length = te) (hm4 : m ≤ 1000) (hte4 : te ≤ 1000) :
    Calls Try.prog 13 #[xV (some ⟨g, 0, none⟩) m cc EA te ec, .int .i64 who, opV k i o n] w fun e w' => ∃ CA' cc' EA' ec', e = .returned (.tuple #[xV CA' m cc' EA' (te + 1) ec', outV p (becomes p k o n).2, .int .i64 0]) ∧
      XRep w' CA' cc' EA' ec' (cs.set i (becomes p k o n).1) (E ++ [⟨who, k, i, o, n, p, (becomes p k o n).2⟩]) ∧ Kept (fun _ => False) w w' ∧ (∀ x, CA' = some x → w.heap.size ≤ x.block) ∧ (∀ x, EA' = some x → w.heap.size ≤ x.block) := by
  have hi : i < cs.length := (List.getElem?_eq_some_iff.1 hp).1
  have hd : doErr cs who k i = 0 := by unfold doErr; rw [if_neg (by omega), if_neg (by omega), if_neg (by omega)]
  have him : i < m := by omega
  have c0 := (hX.cells.cellAt (i * 2) (by omega)).trans (flat_fst cs i p hp)
  have c1 := (hX.cells.cellAt (i * 2 + 1) (by omega)).trans (flat_snd cs i p hp)
  have hok := okB p o k n
  have hbc : becomes p k o n = becomes p k o n := rfl
  generalize hq : becomes p k o n = q at hok ⊢
  have HQ := Lib.hid hq
  have HOK := Lib.hid hok
  clear hq hok hbc
  have HX := Lib.hid hX
  have HD := Lib.hid hd
  have HP := Lib.hid hp
  have HM := Lib.hid hm
  have HT := Lib.hid hte
  clear hX hd hp hi hm hte
  unfold xV opV
  go_enter Try.func13, Try.ntmps13
  go_wp2_with fail
  refine (check_calls (some ⟨g, 0, none⟩) m cc EA te ec cs HM.out who k i o n _).mono ?_
  rintro e w1 ⟨rfl, K1⟩
  rw [HD.out]
  have R1 : RCore w w1 m cc te ec (some ⟨g, 0, none⟩) EA k i o n := ⟨((((Kept.refl _ _).alloc _).alloc _).alloc _).alloc _ |>.trans K1, K1.blk (by repeat' (first | exact Blk.new _ _ _ | apply Blk.alloc)) (fun h => h), K1.blk (((Blk.new' _ _ _ _ (by simp)).alloc _).alloc _) (fun h => h),
    K1.blk ((Blk.new' _ _ _ _ (by simp)).alloc _) (fun h => h), K1.blk (Blk.new' _ _ _ _ (by simp)) (fun h => h)⟩
  have d0 : w1.cell? ⟨w.heap.size, 0, none⟩ = some (.slice (some ⟨g, 0, none⟩) m cc) := R1.b0.cell 0
  have d1 : w1.cell? ⟨w.heap.size + 1, 1, none⟩ = some (.int .i64 i) := R1.b1.cell 1
  have a0 := R1.kept.cell_some (fun h => h) c0
  have a1 := R1.kept.cell_some (fun h => h) c1
  have HR1 := Lib.hid R1
  clear R1 K1 c0 c1
  go_wp2_with fail
  have R2 := HR1.out.more ((Kept.refl (fun _ => False) w1).alloc (.cells #[.int .u64 p.1, .int .u64 p.2] 35))
  have X2 := Blk.new w1 35 #[.int .u64 p.1, .int .u64 p.2]
  have hs1 : w.heap.size + 4 ≤ w1.heap.size := by have := HR1.out.b3.lt; omega
  obtain ⟨W2, hW2⟩ : ∃ W, W = w1.alloc (.cells #[.int .u64 p.1, .int .u64 p.2] 35) := ⟨_, rfl⟩
  rw [← hW2] at R2 X2 ⊢
  have hs2 : w1.heap.size + 1 ≤ W2.heap.size := by rw [hW2]; simp
  obtain ⟨G10, hG10⟩ : ∃ G, G = w1.heap.size := ⟨_, rfl⟩
  rw [← hG10] at X2 hs1 hs2 ⊢
  clear hW2 hG10 d0 d1 a0 a1
  have hqe := run_cell_eql
  have HR2 := Lib.hid R2
  have HX2 := Lib.hid X2
  have b0 : W2.cell? ⟨w.heap.size + 1, 0, none⟩ = some (.int .i64 k) := R2.b1.cell 0
  have b2 : W2.cell? ⟨w.heap.size + 1, 2, none⟩ = some (.int .u64 o.1) := R2.b1.cell 2
  have b3 : W2.cell? ⟨w.heap.size + 1, 3, none⟩ = some (.int .u64 o.2) := R2.b1.cell 3
  have x0 : W2.cell? ⟨G10, 0, none⟩ = some (.int .u64 p.1) := X2.cell 0
  have x1 : W2.cell? ⟨G10, 1, none⟩ = some (.int .u64 p.2) := X2.cell 1
  have l1 := R2.b1.lt
  have l2 := X2.lt
  clear R2 X2
  go_cut [11] (fun s11 wx => ∃ G : Nat, s11 = .pointer (some ⟨G, 0, none⟩) ∧ Blk wx G 41 #[.int .u64 p.1, .int .u64 p.2,   .bool q.2] ∧ Kept (fun _ => False) W2 wx ∧ W2.heap.size ≤ G)
  case first =>
    by_cases hk : k = 2
    · have hk2 : (k != 2) = false := by simpa using hk
      have hkk : q.2 = cellEq p o := by rw [HOK.out, hk2]; rfl
      have HK := Lib.hid hk
      have HKK := Lib.hid hkk
      clear hk hkk
      go_region
      go_wp2_with fail
      go_meet
      rw [HKK.out]
      exact ⟨_, rfl, by repeat' (first | exact Blk.new' _ _ _ _ rfl | apply Blk.drew | apply Blk.alloc), by repeat' (first | exact Kept.refl _ _ | apply Kept.drew | apply Kept.alloc), Nat.le_refl _⟩
    · have hk2 : (k != 2) = true := by simpa using hk
      have hkk : q.2 = true := by rw [HOK.out, hk2]; rfl
      have HK := Lib.hid hk
      have HKK := Lib.hid hkk
      clear hk hkk
      go_region
      go_wp2_with fail
      go_meet
      rw [HKK.out]
      exact ⟨_, rfl, by repeat' (first | exact Blk.new' _ _ _ _ rfl | apply Blk.drew | apply Blk.alloc), by repeat' (first | exact Kept.refl _ _ | apply Kept.drew | apply Kept.alloc), Nat.le_refl _⟩
  case rest =>
    obtain ⟨G, rfl, X11, K3, hG2⟩ := hcut
    have hgn : w.heap.size + 4 ≤ G := by omega
    clear hG2
    have R3 := HR2.out.more K3
    have X10 := K3.blk HX2.out (fun h => h)
    have hX3 := HX.out.kept R3.kept
    have hs3 := K3.size
    have a0 : wc.cell? ⟨w.heap.size, 0, none⟩ = some (.slice (some ⟨g, 0, none⟩) m cc) := R3.b0.cell 0
    have hrow : wc.ownsRow 0 35 2 (.slice (some ⟨g, 0, none⟩) m cc) m (flat cs) := by have := hX3.cells; rwa [HM.out] at this
    obtain ⟨i0, hi0, hz0, hz1, hz2⟩ := info_parts Try.infoCell
    have lw : w.heap.size < wc.heap.size := R3.b0.lt
    have HR3 := Lib.hid R3
    have HX10 := Lib.hid X10
    have HX11 := Lib.hid X11
    have HROW := Lib.hid hrow
    have H3 := Lib.hid hX3
    clear R3 X10 X11 hX3 hrow K3 b0 b2 b3 x0 x1 l1 l2 hqe
    go_upto_region 7 with (at_builtin; refine wpList_append_own_at _ rfl (.tmp 39) (.tmp 41) 28 rfl 0 35 i0 _ 2 16 Try.underlying28 hi0 hz0 hz1 hz2 rfl (by decide) (.slice (some ⟨wc.heap.size, 0, none⟩) 0 0) 0 [] rfl (ownsRow_empty wc _ _) ⟨g, 0, none⟩ m cc (flat cs) rfl (by rw [flat_length, HM.out]) ((HROW.out.alloc _).cells (g := g) rfl) (flat_one' cs) (by unfold maxLen; omega) (by omega) (Nat.zero_le _) ?_; intro v1 w2 hown1 hgrow hnil hat)
    have hne : v1 ≠ .slice none 0 0 := fun e => by have := (hnil.1 e).1; simp at this
    have ho : w2.ownsRow 0 35 2 v1 cs.length (flat cs) := by rw [HM.out]; simpa using hown1
    obtain ⟨g2, c2, rfl, hR2⟩ := RowC.of_own ho hne
    have hg2 : wc.heap.size ≤ g2 := by rcases hat with h | h <;> simp [Value.ownBlock] at h <;> omega
    have K4 : Kept (fun _ => False) wc w2 := by
      have h1 : Kept (fun _ => False) wc (wc.alloc (.cells #[] 35)) := (Kept.refl _ _).alloc _
      exact ⟨hgrow.os.trans h1.os, hgrow.tape.trans h1.tape, hgrow.output.trans h1.output, Nat.le_trans h1.size hgrow.size, fun k hk _ => (hgrow.block k (Nat.lt_of_lt_of_le hk h1.size) (by simp [Value.ownBlock]; omega)).trans (h1.block k hk (by simp))⟩
    have R4 := HR3.out.more K4
    have X10 := K4.blk HX10.out (fun h => h)
    have X11 := K4.blk HX11.out (fun h => h)
    have H4 := Lib.hid (H3.out.kept K4)
    have hi : i < cs.length := by have := HM.out; omega
    have n1 : w.heap.size + 1 ≠ g2 := by have := HR3.out.b1.lt; omega
    have n10 : G10 ≠ g2 := by have := HX10.out.lt; omega
    have n11 : G ≠ g2 := by have := HX11.out.lt; omega
    have nw : w.heap.size + 4 ≤ g2 := by have := HR3.out.b3.lt; omega
    have HR4 := Lib.hid R4
    have HX10' := Lib.hid X10
    have HX11' := Lib.hid X11
    have HRW := Lib.hid hR2
    clear R4 X10 X11 hR2 K4 ho hown1 hgrow hnil hat hne hg2 HR3 HX10 HX11 HROW H3 a0 lw
    go_upto_region 7 with fail
    go_cut [] (fun wx => RowC wx g2 c2 (cs.set i q.1) ∧ RCore w wx m cc te ec (some ⟨g, 0, none⟩) EA k i o n ∧ Blk wx G 41 #[.int .u64 p.1, .int .u64 p.2, .bool q.2])
    case first =>
      have e7 := eight_of HR4.out.b1 HX10'.out
      go_region_held3 (fun w' => w'.cell? ⟨w.heap.size + 1, 0, none⟩ = some (.int .i64 k) ∧ w'.cell? ⟨w.heap.size + 1, 1, none⟩ = some (.int .i64 i) ∧ w'.cell? ⟨w.heap.size + 1, 2, none⟩ = some (.int .u64 o.1) ∧ w'.cell? ⟨w.heap.size + 1, 3, none⟩ = some (.int .u64 o.2) ∧
          w'.cell? ⟨w.heap.size + 1, 4, none⟩ = some (.int .u64 n.1) ∧ w'.cell? ⟨w.heap.size + 1, 5, none⟩ = some (.int .u64 n.2) ∧ w'.cell? ⟨G10, 0, none⟩ = some (.int .u64 p.1) ∧ w'.cell? ⟨G10, 1, none⟩ = some (.int .u64 p.2))
        (first
          | exact eight_of HR4.out.b1 HX10'.out
          | exact eight_of HR4.out.b1.drew HX10'.out.drew
          | exact eight_of HB5 HX5
          | exact eight_of ((HB5.far (p := ⟨g2, _, none⟩) n1 _).far (p := ⟨g2, _, none⟩) n1 _) ((HX5.far (p := ⟨g2, _, none⟩) n10 _).far (p := ⟨g2, _, none⟩) n10 _))
        ((go_at_call 26; refine (becomes_calls p k i o n _ h0 h3).mono ?_; rintro e w5 ⟨rfl, K5⟩; rw [HQ.out]; have K5' := Kept.of_drew K5; have HB5 := K5'.blk HR4.out.b1 (fun h => h); have HX5 := K5'.blk HX10'.out (fun h => h); obtain ⟨cur, hcb, hcr⟩ := HRW.out; have hcb5 := K5'.blk hcb (fun h => h); obtain ⟨q0, q1⟩ := RowC.at_ hcr.2.2.2 HP.out; have z0 := (hcb5.cell (i * 2)).trans q0; have z1 := (hcb5.cell (i * 2 + 1)).trans q1; have y0 := hcb5.frozen (i * 2); have y1 := hcb5.frozen (i * 2 + 1); simp only [cellV]))
      go_wp2_with fail
      go_meet
      exact ⟨⟨_, (hcb5.set_ _ _).set_ _ _, by simpa using hcr.1, hcr.2.1, by simpa using hcr.2.2.1, RowC.set_ hcr.2.2.2 hi q.1⟩, (HR4.out.more K5').row (S := fun x => x = g2) (((Kept.refl _ _).setAt _).setAt _) (fun x hx => by omega),
        ((K5'.blk HX11'.out (fun h => h)).far (p := ⟨g2, _, none⟩) n11 _).far (p := ⟨g2, _, none⟩) n11 _⟩
    case rest =>
      obtain ⟨RW, R6, X6⟩ := hcut
      obtain ⟨j0, hj0, hy0, hy1, hy2⟩ := info_parts Try.infoEv
      have hT := (HX.out.kept R6.kept).trace
      rw [HT.out] at hT
      have hsz : w.heap.size + 4 ≤ wc.heap.size := by have := R6.b3.lt; omega
      have hGB2 : G ≠ w.heap.size + 1 + 1 := X6.ne_ R6.b2 (by decide)
      have EK : ∀ W : World, Kept (fun _ => False) wc W → RS w.heap.size (w.heap.size + 1) G m cc te ec (some ⟨g, 0, none⟩) EA k i o n p q.2 W := fun W hk => RS.of R6 X6 hk (fun h => h) (fun h => h) (fun h => h)
      have hGB3 : G ≠ w.heap.size + 1 + 1 + 1 := by omega
      have lB2 := R6.b2
      have lB3 := R6.b3
      have lG := X6.lt
      have HT6 := Lib.hid hT
      have HR6 := Lib.hid R6
      have HX6 := Lib.hid X6
      have HRW6 := Lib.hid RW
      have HEK := Lib.hid EK
      have HL2 := Lib.hid lB2
      have HL3 := Lib.hid lB3
      have s1 : ∀ o : Obj, wc.heap.size + 1 = (wc.alloc o).heap.size := fun o => by simp
      have HS1 := Lib.hid s1
      have hb1 : 0 + 1 ≤ maxLen := by unfold maxLen; omega
      have hb2 : (0 + 1) * 80 ≤ 140737488355328 := by omega
      have hone : ∀ u ∈ eventL who k i o n p q.2, u.oneCell' = true := by simp [eventL, Value.oneCell']
      have EK2 : ∀ W W' : World, Kept (fun _ => False) wc W → Kept (fun k => k = w.heap.size + 1 + 1 ∨ k = w.heap.size + 1 + 1 + 1) W W' → RS w.heap.size (w.heap.size + 1) G m cc te ec (some ⟨g, 0, none⟩) EA k i o n p q.2 W' := fun W W' hk hk' => RS.of (R6.more hk) (hk.blk X6 (fun h => h)) hk' (by omega) (by omega) (by omega)
      have HEK2 := Lib.hid EK2
      clear EK2
      clear R6 X6 RW EK hGB3 lB2 lB3 hT s1
      go_upto_region 8 with fail
      rcases EA with _ | ⟨eb, eo, es⟩
      · have hte0 : te = 0 ∧ ec = 0 := by
          rcases HT6.out.2 with ⟨hv, h0⟩ | ⟨g, cap, cur, hv, _⟩
          · simp at hv; exact ⟨h0, hv.2⟩
          · simp at hv
        obtain ⟨rfl, rfl⟩ := hte0
        have HE0 := Lib.hid (HEK.out _ (Kept.refl _ _).drew)
        have HE1 := Lib.hid (fun z : Obj => HEK.out _ ((Kept.refl _ _).alloc z).drew)
        have HE2 := Lib.hid (fun z z' : Obj => HEK.out _ (((Kept.refl _ _).alloc z).alloc z').drew)
        have HE3 := Lib.hid (fun (W : World) (u0 u1 : Value) (hk : Kept (fun _ => False) wc W) => HEK2.out _ _ hk (two_set W (w.heap.size + 1 + 1) (w.heap.size + 1 + 1 + 1) u0 u1))
        have HE4 := Lib.hid (fun (W : World) (u0 u1 v0 v1 v2 : Value) (hk : Kept (fun _ => False) wc W) => HEK2.out _ _ hk (five_set W (w.heap.size + 1 + 1) (w.heap.size + 1 + 1 + 1) u0 u1 v0 v1 v2))
        go_region_held3 (fun W => W.cell? ⟨w.heap.size, 0, none⟩ = some (.slice (some ⟨g, 0, none⟩) m cc) ∧ W.cell? ⟨w.heap.size, 1, none⟩ = some (.slice none 0 0) ∧ W.cell? ⟨w.heap.size + 1, 0, none⟩ = some (.int .i64 k) ∧ W.cell? ⟨w.heap.size + 1, 1, none⟩ = some (.int .i64 i) ∧
            W.cell? ⟨w.heap.size + 1, 2, none⟩ = some (.int .u64 o.1) ∧ W.cell? ⟨w.heap.size + 1, 3, none⟩ = some (.int .u64 o.2) ∧ W.cell? ⟨w.heap.size + 1, 4, none⟩ = some (.int .u64 n.1) ∧ W.cell? ⟨w.heap.size + 1, 5, none⟩ = some (.int .u64 n.2) ∧
            W.cell? ⟨G, 0, none⟩ = some (.int .u64 p.1) ∧ W.cell? ⟨G, 1, none⟩ = some (.int .u64 p.2) ∧ W.cell? ⟨G, 2, none⟩ = some (.bool q.2))
          ((show RS w.heap.size (w.heap.size + 1) G m cc 0 0 (some ⟨g, 0, none⟩) none k i o n p q.2 _; first | with_reducible exact HE0.out | with_reducible exact HE1.out _ | with_reducible exact HE2.out _ _ | with_reducible exact HEK.out _ K5 | with_reducible exact HE3.out _ _ _ K5 | with_reducible exact HE4.out _ _ _ _ _ _ K5))
          ((first
            | (refine step_append_nil _ rfl (.tmp 51) (.tmp 53) 29 rfl 57 j0 Try.underlying29 hj0 _ 0 0 0 rfl rfl (Nat.le_refl _) ?_)
            | (refine step_append_at _ rfl (.tmp 54) (.tmp 59) 29 rfl 0 57 j0 _ 10 80 Try.underlying29 hj0 hy0 hy1 hy2 rfl (by decide) (.slice (some ⟨_, 0, none⟩) 0 0) 0 [] rfl ?_ ⟨_, 0, none⟩ 1 1 (eventL who k i o n p q.2) rfl rfl ?_ hone hb1 hb2 (Nat.zero_le _) ?_; (first | (with_reducible exact own_ab wc _ _ _) | (with_reducible exact own_c wc _ _ _ _ (HS1.out _))); (first | (with_reducible exact news_ab wc _ who k i o n p q.2 _ _ (HS1.out _)) | (with_reducible exact news_c wc _ who k i o n p q.2 _)); intro EA5 ec5 w5 hown5 hg5 hat5; (first | (have K5 := grown_fresh (((Kept.refl _ wc).alloc _).alloc _).drew hg5 (own_z (Nat.le_refl _)); have V5 := fresh_at (((Kept.refl _ wc).alloc _).alloc _).drew (own_z (Nat.le_refl _)) hat5) | (have K5 := grown_fresh (((Kept.refl _ wc).alloc _).alloc _).drew hg5 (own_z (Nat.le_succ _)); have V5 := fresh_at (((Kept.refl _ wc).alloc _).alloc _).drew (own_z (Nat.le_succ _)) hat5)); have b2 := K5.blk HL2.out (fun h => h); have b3 := K5.blk HL3.out (fun h => h); have m0 : w5.cell? ⟨w.heap.size + 1 + 1, 0, none⟩ = some (Value.slice none 0 0) := b2.cell 0; have m1 : w5.cell? ⟨w.heap.size + 1 + 1, 1, none⟩ = some (Value.slice none 0 0) := b2.cell 1; have m2 : w5.cell? ⟨w.heap.size + 1 + 1 + 1, 0, none⟩ = some (Value.int .u64 0) := b3.cell 0; have m3 : w5.cell? ⟨w.heap.size + 1 + 1 + 1, 1, none⟩ = some (Value.int .u64 0) := b3.cell 1; have m4 : w5.cell? ⟨w.heap.size + 1 + 1 + 1, 2, none⟩ = some (Value.bool false) := b3.cell 2; have q0 := b2.frozen 0; have q1 := b2.frozen 1; have q2 := b3.frozen 0; have q3 := b3.frozen 1; have q4 := b3.frozen 2; have HB5 := Lib.hid b2; have HC5 := Lib.hid b3; clear b2 b3)))
        all_goals
          have K5' := Lib.hid K5
          have V5' := Lib.hid V5
          have h5' := Lib.hid hown5
          clear K5 V5 hown5 hg5 hat5
          go_wp2_with fail
          have hE0 : E = [] := List.length_eq_zero_iff.1 HT.out
          obtain ⟨wx, hwx, r0, r1, r2, r3, r4, hxr, hk⟩ := fin_do (p := p) (E' := E ++ [⟨who, k, i, o, n, p, q.2⟩]) q.2 HR6.out HRW6.out K5'.out V5'.out (by have := h5'.out; rw [hE0]; simpa [flatE, EvD.L] using this) (by rw [hE0]; rfl)
          have hlen : (cs.set i q.1).length = cs.length := by simp
          rw [hlen] at hwx r0
          rw [← hwx]
          rw [HM.out] at r0
          exact bodyPost_ret (v := .tuple #[xV (some ⟨g2, 0, none⟩) m c2 EA5 (0 + 1) ec5, outV p q.2, .int .i64 0]) (by simp [results, Try.results13, go_sem, xV, outV, r0, r1, r2, r3, r4]) rfl ⟨some ⟨g2, 0, none⟩, c2, EA5, ec5, rfl, hxr, hk, fun x hx => by injection hx with hx; subst hx; exact Nat.le_trans (Nat.le_add_right _ 4) nw, blk_ge V5'.out (Nat.le_trans (Nat.le_add_right _ 4) hsz)⟩
      · have hge : eo = 0 ∧ es = none := by
          rcases HT6.out.2 with ⟨hv, h0⟩ | ⟨g, cap, cur, hv, _⟩
          · simp at hv
          · simp only [Value.slice.injEq, Option.some.injEq, Addr.mk.injEq] at hv
            exact ⟨hv.1.2.1, hv.1.2.2⟩
        obtain ⟨rfl, rfl⟩ := hge
        have hE : (flatE E).length = te * 10 := by rw [flatE_length, HT.out]
        have hb3 : te ≤ maxLen := by unfold maxLen; omega
        have hb4 : te * 80 ≤ 140737488355328 := by omega
        have hb5 : te + 1 ≤ maxLen := by unfold maxLen; omega
        have hb6 : (te + 1) * 80 ≤ 140737488355328 := by omega
        have hF := flatE_one' E
        have HN1 := Lib.hid (fun z : Obj => ((((Kept.refl (fun _ => False) wc).alloc z).drew).own HT6.out (fun _ _ h => h)).cells (g := eb) rfl)
        have HN2 := Lib.hid (fun z z' : Obj => (((((Kept.refl (fun _ => False) wc).alloc z).alloc z').drew).own HT6.out (fun _ _ h => h)).cells (g := eb) rfl)
        have HE0 := Lib.hid (HEK.out _ (Kept.refl _ _).drew)
        have HE1 := Lib.hid (fun z : Obj => HEK.out _ ((Kept.refl _ _).alloc z).drew)
        have HE2 := Lib.hid (fun z z' : Obj => HEK.out _ (((Kept.refl _ _).alloc z).alloc z').drew)
        have HE5 := Lib.hid (fun (W : World) (z : Obj) (hk : Kept (fun _ => False) wc W) => HEK.out _ (hk.alloc z))
        have HE3 := Lib.hid (fun (W : World) (u0 u1 : Value) (hk : Kept (fun _ => False) wc W) => HEK2.out _ _ hk (two_set W (w.heap.size + 1 + 1) (w.heap.size + 1 + 1 + 1) u0 u1))
        have HE4 := Lib.hid (fun (W : World) (u0 u1 v0 v1 v2 : Value) (hk : Kept (fun _ => False) wc W) => HEK2.out _ _ hk (five_set W (w.heap.size + 1 + 1) (w.heap.size + 1 + 1 + 1) u0 u1 v0 v1 v2))
        go_region_held3 (fun W => W.cell? ⟨w.heap.size, 0, none⟩ = some (.slice (some ⟨g, 0, none⟩) m cc) ∧ W.cell? ⟨w.heap.size, 1, none⟩ = some (.slice (some ⟨eb, 0, none⟩) te ec) ∧ W.cell? ⟨w.heap.size + 1, 0, none⟩ = some (.int .i64 k) ∧ W.cell? ⟨w.heap.size + 1, 1, none⟩ = some (.int .i64 i) ∧
            W.cell? ⟨w.heap.size + 1, 2, none⟩ = some (.int .u64 o.1) ∧ W.cell? ⟨w.heap.size + 1, 3, none⟩ = some (.int .u64 o.2) ∧ W.cell? ⟨w.heap.size + 1, 4, none⟩ = some (.int .u64 n.1) ∧ W.cell? ⟨w.heap.size + 1, 5, none⟩ = some (.int .u64 n.2) ∧
            W.cell? ⟨G, 0, none⟩ = some (.int .u64 p.1) ∧ W.cell? ⟨G, 1, none⟩ = some (.int .u64 p.2) ∧ W.cell? ⟨G, 2, none⟩ = some (.bool q.2))
          ((show RS w.heap.size (w.heap.size + 1) G m cc te ec (some ⟨g, 0, none⟩) (some ⟨eb, 0, none⟩) k i o n p q.2 _; first | with_reducible exact HE0.out | with_reducible exact HE1.out _ | with_reducible exact HE2.out _ _ | with_reducible exact HEK.out _ K5 | with_reducible exact HE5.out _ _ K5 | with_reducible exact HEK.out _ K6 | with_reducible exact HE3.out _ _ _ K6 | with_reducible exact HE4.out _ _ _ _ _ _ K6))
          ((first
            | (refine step_append_new _ rfl (.tmp 51) (.tmp 53) 29 rfl 57 j0 _ 10 80 Try.underlying29 hj0 hy0 hy1 hy2 rfl (by decide) _ rfl ?_ ⟨eb, 0, none⟩ te ec (flatE E) rfl hE ?_ hF hb3 hb4 ?_; (first | (with_reducible exact own_a wc _ _) | (with_reducible exact own_ab wc _ _ _) | (with_reducible exact own_c wc _ _ _ _ (HS1.out _))); (first | (with_reducible exact HN1.out _) | (with_reducible exact HN2.out _ _)); intro EA5 ec5 w5 hown5 hg5 hat5; (first | (have K5 := grown_fresh ((Kept.refl _ wc).alloc _).drew hg5 (own_z (Nat.le_refl _)); have V5 := fresh_at ((Kept.refl _ wc).alloc _).drew (own_z (Nat.le_refl _)) hat5) | (have K5 := grown_fresh (((Kept.refl _ wc).alloc _).alloc _).drew hg5 (own_z (Nat.le_refl _)); have V5 := fresh_at (((Kept.refl _ wc).alloc _).alloc _).drew (own_z (Nat.le_refl _)) hat5) | (have K5 := grown_fresh (((Kept.refl _ wc).alloc _).alloc _).drew hg5 (own_z (Nat.le_succ _)); have V5 := fresh_at (((Kept.refl _ wc).alloc _).alloc _).drew (own_z (Nat.le_succ _)) hat5)))
            | (refine step_append_at _ rfl (.tmp 54) (.tmp 59) 29 rfl 0 57 j0 _ 10 80 Try.underlying29 hj0 hy0 hy1 hy2 rfl (by decide) (.slice EA5 te ec5) te (flatE E) rfl ?_ ⟨_, 0, none⟩ 1 1 (eventL who k i o n p q.2) rfl rfl ?_ hone hb5 hb6 (Nat.zero_le _) ?_; (first | (with_reducible exact hown5) | (with_reducible exact hown5.alloc _)); (first | (with_reducible exact news_d w5 who k i o n p q.2 _) | (with_reducible exact news_grown hg5 (ne_ab _) (news_ab wc _ who k i o n p q.2 _ _ (HS1.out _))) | (with_reducible exact news_grown hg5 (ne_c _) (news_c wc _ who k i o n p q.2 _))); intro EA6 ec6 w6 hown6 hg6 hat6; (first | (have K6 := grown_fresh K5 hg6 V5; have V6 := fresh_at K5 V5 hat6) | (have K6 := grown_fresh (K5.alloc _) hg6 V5; have V6 := fresh_at (K5.alloc _) V5 hat6)); have b2 := K6.blk HL2.out (fun h => h); have b3 := K6.blk HL3.out (fun h => h); have m0 : w6.cell? ⟨w.heap.size + 1 + 1, 0, none⟩ = some (Value.slice none 0 0) := b2.cell 0; have m1 : w6.cell? ⟨w.heap.size + 1 + 1, 1, none⟩ = some (Value.slice none 0 0) := b2.cell 1; have m2 : w6.cell? ⟨w.heap.size + 1 + 1 + 1, 0, none⟩ = some (Value.int .u64 0) := b3.cell 0; have m3 : w6.cell? ⟨w.heap.size + 1 + 1 + 1, 1, none⟩ = some (Value.int .u64 0) := b3.cell 1; have m4 : w6.cell? ⟨w.heap.size + 1 + 1 + 1, 2, none⟩ = some (Value.bool false) := b3.cell 2; have q0 := b2.frozen 0; have q1 := b2.frozen 1; have q2 := b3.frozen 0; have q3 := b3.frozen 1; have q4 := b3.frozen 2; clear b2 b3)))
        all_goals
          have K6' := Lib.hid K6
          have V6' := Lib.hid V6
          have h6' := Lib.hid hown6
          clear K6 V6 hown6 hg6 hat6 K5 V5 hown5 hg5 hat5
          go_wp2_with fail
          obtain ⟨wx, hwx, r0, r1, r2, r3, r4, hxr, hk⟩ := fin_do (p := p) (E' := E ++ [⟨who, k, i, o, n, p, q.2⟩]) q.2 HR6.out HRW6.out K6'.out V6'.out (by rw [flatE_append, flatE_one]; exact h6'.out) (by rw [List.length_append, HT.out]; rfl)
          have hlen : (cs.set i q.1).length = cs.length := by simp
          rw [hlen] at hwx r0
          rw [← hwx]
          rw [HM.out] at r0
          exact bodyPost_ret (v := .tuple #[xV (some ⟨g2, 0, none⟩) m c2 EA6 (te + 1) ec6, outV p q.2, .int .i64 0]) (by simp [results, Try.results13, go_sem, xV, outV, r0, r1, r2, r3, r4]) rfl ⟨some ⟨g2, 0, none⟩, c2, EA6, ec6, rfl, hxr, hk, fun x hx => by injection hx with hx; subst hx; exact Nat.le_trans (Nat.le_add_right _ 4) nw, blk_ge V6'.out (Nat.le_trans (Nat.le_add_right _ 4) hsz)⟩

end Go.Proofs.Ytkinnhdagdkhcaa
