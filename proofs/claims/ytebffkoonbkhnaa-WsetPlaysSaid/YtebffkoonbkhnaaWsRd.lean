/- Steps of a region that draws: appends to rows of the call's own. -/
import Derived.Test.YtebffkoonbkhnaaWsRb
namespace Go.Proofs.Ytebffkoonbkhnaa
open Go.RowKit Go.Maps

section
variable {P : Program} (w : World)
/-- append of nothing, as a step of a region that draws. -/
theorem step_append_nil {ops : Array Oper} {o : Oper} {a : Act} {K : Act → World → Prop} {Q : Exit → Act → World → Prop} {F : Prop} (hgd : o.guard = none) (s x : Operand) (t : TypeId)
    (ho : o.op = .call { callee := .builtin .append, args := #[s, x], argTypes := #[t, t] }) (e : TypeId) (i : TypeInfo) (ht : P.underlying t = some (.slice e)) (hi : P.info? e = some i)
    (g n cap c : Nat) (hs : a.eval s = .slice (some ⟨g, 0, none⟩) n cap) (hx : a.eval x = .slice none 0 c) (hnc : n ≤ cap) (h : K (a.put o.dst (.slice (some ⟨g, 0, none⟩) n cap)) w) :
    if Region.wanted o (yielded ops a.tmps) = true then Oper.wp P o a w K Q else F := by
  have hw : Region.wanted o (yielded ops a.tmps) = true := by simp [Region.wanted, hgd]
  rw [if_pos hw]
  have hrun : (Builtin.append_ #[t, t] o.type #[.slice (some ⟨g, 0, none⟩) n cap, .slice none 0 c]).run P w = .ok (.slice (some ⟨g, 0, none⟩) n cap) w := by
    simp [Builtin.append_, run_underlying ht, sizeOf, typeInfo, hi, Builtin.lenOf, Builtin.firstCells, hnc, storeCells]
  unfold Oper.wp execOp
  simp only [ho, resolve, invoke, builtin, Sem.run_bind, Sem.run_pure, Result.andThen_ok, List.map_toArray, List.map_cons, List.map_nil, hs, hx, hrun]
  exact h
/-- append to a row of the call's own, as a step of a region that draws; where the new row lies. -/
theorem step_append_at {ops : Array Oper} {o : Oper} {a : Act} {K : Act → World → Prop} {Q : Exit → Act → World → Prop} {F : Prop} (hgd : o.guard = none) (s x : Operand) (t : TypeId)
    (ho : o.op = .call { callee := .builtin .append, args := #[s, x], argTypes := #[t, t] })
    (base : Nat) (e : TypeId) (i : TypeInfo) (z : Value) (size bytes : Nat) (ht : P.underlying t = some (.slice e)) (hi : P.info? e = some i) (hz : i.zero = some z)
    (hsize : i.size = size) (hby : i.bytes = bytes) (hzs : z.cells.size = size) (hsz : 0 < size)
    (v : Value) (n : Nat) (xs : List Value) (hs : a.eval s = v) (hown : w.ownsRow base e size v n xs)
    (ad : Addr) (m c : Nat) (news : List Value) (hx : a.eval x = .slice (some ad) m c) (hl : news.length = m * size) (hnews : ∀ j u, news[j]? = some u → w.cell? (ad.add j) = some u) (h1 : ∀ u ∈ news, u.oneCell' = true)
    (h63 : n + m ≤ maxLen) (hbytes : (n + m) * bytes ≤ 140737488355328) (hbase : base ≤ w.heap.size)
    (h : ∀ A c' w', w'.ownsRow base e size (.slice A (n + m) c') (n + m) (xs ++ news) → w.grownBy w' v.ownBlock → ((Value.slice A (n + m) c').ownBlock = v.ownBlock ∨ (Value.slice A (n + m) c').ownBlock = some w.heap.size) → K (a.put o.dst (.slice A (n + m) c')) w') :
    if Region.wanted o (yielded ops a.tmps) = true then Oper.wp P o a w K Q else F := by
  have hw : Region.wanted o (yielded ops a.tmps) = true := by simp [Region.wanted, hgd]
  rw [if_pos hw]
  obtain ⟨v', w', hr, h2, h3, _, h5⟩ := run_append_own_at (P := P) w base t o.type e i z size bytes ht hi hz hsize hby hzs hsz v n xs hown ad m c news hl hnews h1 h63 hbytes hbase
  obtain ⟨A, c', rfl⟩ := own_form h2
  unfold Oper.wp execOp
  simp only [ho, resolve, invoke, builtin, Sem.run_bind, Sem.run_pure, Result.andThen_ok, List.map_toArray, List.map_cons, List.map_nil, hs, hx, hr]
  exact h A c' w' h2 h3 h5
/-- append to a new row of nothing, as a step of a region that draws. -/
theorem step_append_new {ops : Array Oper} {o : Oper} {a : Act} {K : Act → World → Prop} {Q : Exit → Act → World → Prop} {F : Prop} (hgd : o.guard = none) (s x : Operand) (t : TypeId)
    (ho : o.op = .call { callee := .builtin .append, args := #[s, x], argTypes := #[t, t] })
    (e : TypeId) (i : TypeInfo) (z : Value) (size bytes : Nat) (ht : P.underlying t = some (.slice e)) (hi : P.info? e = some i) (hz : i.zero = some z)
    (hsize : i.size = size) (hby : i.bytes = bytes) (hzs : z.cells.size = size) (hsz : 0 < size)
    (g0 : Nat) (hs : a.eval s = .slice (some ⟨g0, 0, none⟩) 0 0) (hown : w.ownsRow 0 e size (.slice (some ⟨g0, 0, none⟩) 0 0) 0 [])
    (ad : Addr) (m c : Nat) (news : List Value) (hx : a.eval x = .slice (some ad) m c) (hl : news.length = m * size) (hnews : ∀ j u, news[j]? = some u → w.cell? (ad.add j) = some u) (h1 : ∀ u ∈ news, u.oneCell' = true)
    (h63 : m ≤ maxLen) (hbytes : m * bytes ≤ 140737488355328)
    (h : ∀ A c' w', w'.ownsRow 0 e size (.slice A m c') m news → w.grownBy w' (Value.slice (some ⟨g0, 0, none⟩) 0 0).ownBlock → ((Value.slice A m c').ownBlock = (Value.slice (some ⟨g0, 0, none⟩) 0 0).ownBlock ∨ (Value.slice A m c').ownBlock = some w.heap.size) → K (a.put o.dst (.slice A m c')) w') :
    if Region.wanted o (yielded ops a.tmps) = true then Oper.wp P o a w K Q else F := by
  refine step_append_at w hgd s x t ho 0 e i z size bytes ht hi hz hsize hby hzs hsz _ 0 [] hs hown ad m c news hx hl hnews h1 (by rwa [Nat.zero_add]) (by rwa [Nat.zero_add]) (Nat.zero_le _) ?_
  intro A c' w' h1 h2 h3
  rw [Nat.zero_add] at h1 h3
  rw [Nat.zero_add]
  rw [List.nil_append] at h1
  exact h A c' w' h1 h2 h3
end

theorem grown_fresh {w0 w w' : World} {row : Option Nat} (h : Kept (fun _ => False) w0 w) (hg : w.grownBy w' row) (hr : ∀ x, row = some x → w0.heap.size ≤ x) : Kept (fun _ => False) w0 w' :=
  ⟨hg.os.trans h.os, hg.tape.trans h.tape, hg.output.trans h.output, Nat.le_trans h.size hg.size, fun k hk _ => (hg.block k (Nat.lt_of_lt_of_le hk h.size) (fun e => by have := hr k e.symm; omega)).trans (h.block k hk (fun h => h))⟩
theorem fresh_at {w0 w : World} {v v' : Value} (h : Kept (fun _ => False) w0 w) (hv : ∀ x, v.ownBlock = some x → w0.heap.size ≤ x) (hat : v'.ownBlock = v.ownBlock ∨ v'.ownBlock = some w.heap.size) : ∀ x, v'.ownBlock = some x → w0.heap.size ≤ x := by
  intro x hx
  rcases hat with h' | h' <;> rw [h'] at hx
  · exact hv x hx
  · injection hx with hx
    have := h.size
    omega
theorem own_z {w0 : World} {n : Nat} (hn : w0.heap.size ≤ n) : ∀ x, (Value.slice (some ⟨n, 0, none⟩) 0 0).ownBlock = some x → w0.heap.size ≤ x := by
  intro x hx
  simp [Value.ownBlock] at hx
  omega
theorem news_grown {w w' : World} {row : Option Nat} {n : Nat} {l : List Value} (hg : w.grownBy w' row) (hne : some n ≠ row) (h : ∀ j u, l[j]? = some u → w.cell? ((⟨n, 0, none⟩ : Addr).add j) = some u) : ∀ j u, l[j]? = some u → w'.cell? ((⟨n, 0, none⟩ : Addr).add j) = some u := by
  intro j u hu
  exact hg.cell (h j u hu) (by unfold Addr.add; split <;> exact hne)

theorem ne_ab (n : Nat) : some (n + 1) ≠ (Value.slice (some ⟨n, 0, none⟩) 0 0).ownBlock := by simp [Value.ownBlock]
theorem ne_c (n : Nat) : some n ≠ (Value.slice (some ⟨n + 1, 0, none⟩) 0 0).ownBlock := by simp [Value.ownBlock]


section
variable (W : World)
theorem own8a : ((W.alloc (.cells #[] 129)).drew).ownsRow 0 129 2 (.slice (some ⟨W.heap.size, 0, none⟩) 0 0) 0 [] := own_base (own_empty W 129 2) (fun _ _ => Nat.zero_le _)
theorem own8ab (z : Obj) : (((W.alloc (.cells #[] 129)).alloc z).drew).ownsRow 0 129 2 (.slice (some ⟨W.heap.size, 0, none⟩) 0 0) 0 [] := (own_base (own_empty W 129 2) (fun _ _ => Nat.zero_le _)).alloc z
theorem own8c (o : Obj) (N : Nat) (hN : N = (W.alloc o).heap.size) : (((W.alloc o).alloc (.cells #[] 129)).drew).ownsRow 0 129 2 (.slice (some ⟨N, 0, none⟩) 0 0) 0 [] := hN ▸ own_base (own_empty (W.alloc o) 129 2) (fun _ _ => Nat.zero_le _)
theorem news8d (a v : Int) : ∀ j u, [Value.int .i64 a, .int .u64 v][j]? = some u → (W.alloc (.cells #[.int .i64 a, .int .u64 v] 129)).cell? ((⟨W.heap.size, 0, none⟩ : Addr).add j) = some u := news_at W #[.int .i64 a, .int .u64 v] 129 W.heap.size rfl
theorem news8ab (z : Obj) (a v : Int) (N : Nat) (hN : N = (W.alloc z).heap.size) : ∀ j u, [Value.int .i64 a, .int .u64 v][j]? = some u → (((W.alloc z).alloc (.cells #[.int .i64 a, .int .u64 v] 129)).drew).cell? ((⟨N, 0, none⟩ : Addr).add j) = some u := news_at (W.alloc z) #[.int .i64 a, .int .u64 v] 129 N hN
theorem news8c (z : Obj) (a v : Int) : ∀ j u, [Value.int .i64 a, .int .u64 v][j]? = some u → (((W.alloc (.cells #[.int .i64 a, .int .u64 v] 129)).alloc z).drew).cell? ((⟨W.heap.size, 0, none⟩ : Addr).add j) = some u := fun j u h =>
  ((Kept.refl (fun _ => False) _).alloc z).cell_some (fun h => h) (news8d W a v j u h)
end
end Go.Proofs.Ytebffkoonbkhnaa
