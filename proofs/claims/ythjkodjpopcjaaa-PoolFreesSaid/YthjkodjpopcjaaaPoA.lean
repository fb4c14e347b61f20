/- Layer 10 (pool): a pool in memory; New, Status, Mark, cells, atMost, goOn. -/
import Derived.Test.YthjkodjpopcjaaaVwY
import Derived.Test.YthjkodjpopcjaaaWsN
namespace Go.Proofs.Ythjkodjpopcjaaa
open Go.RowKit Go.Maps
attribute [local go_sem ↓] loadMap_eq

structure PoD where
  seq : Int
  stage : Int
  pos : Int
  st : Int
  nm : List Int
  lm : List Int
  sd : Bool
  wt : Int
  wl : Int
  nt : Int
  nl : Int
def poA (c : CfgD) (p : PoD) (mb : Nat) (lv : Value) : Array Value := #[.int .i64 c.t, .int .i64 c.b, .int .i64 c.wr, .int .i64 c.f, .int .u64 c.first, .int .u64 c.last,
  .int .i64 0, .int .i64 1, .int .i64 2, .int .i64 6, .int .i64 7, .int .i64 8, .int .i64 9, .int .i64 c.ans, .int .i64 (c.ans + 1), .int .i64 (c.ans + 2), .int .i64 c.root,
  .int .i64 c.life, .int .i64 c.top, .int .i64 c.stack, .int .i64 c.limp, .int .i64 c.limbo, .int .i64 c.word,
  .int .u64 p.seq, .int .i64 p.stage, .int .i64 p.pos, .int .i64 p.st, .map (some mb), lv, .bool p.sd, .int .i64 p.wt, .int .i64 p.wl, .int .i64 p.nt, .int .i64 p.nl]
def mtU : MTy := ⟨.u64, .i64, 22, 3, 127⟩
theorem mtU_fine : mtU.Fine := ⟨Try.underlying22, Try.underlying3, Try.underlying127, fun w => zeroInt w⟩
/-- How many slots name it. -/
def cntF (nm : List Int) (a : Int) : Option Int := if nm.count a = 0 then none else some (nm.count a : Int)
theorem cntF_get (nm : List Int) (a : Int) : (cntF nm a).getD 0 = (nm.count a : Int) := by
  unfold cntF
  by_cases h : nm.count a = 0
  · rw [if_pos h, h]; rfl
  · rw [if_neg h]; rfl
theorem cntF_snoc (nm : List Int) (a : Int) : upd (cntF nm) a ((nm.count a : Int) + 1) = cntF (nm ++ [a]) := by
  funext x
  unfold upd cntF
  rw [List.count_append]
  by_cases h : x = a
  · subst h
    rw [if_pos rfl, List.count_singleton_self, if_neg (by omega)]
    simp
  · have : List.count x [a] = 0 := by simp [List.count_cons]; exact fun e => h e.symm
    rw [if_neg h, this, Nat.add_zero]
def u64L (l : List Int) : List Value := l.map fun x => .int .u64 x
theorem u64L_snoc (l : List Int) (x : Int) : u64L (l ++ [x]) = u64L l ++ [.int .u64 x] := by simp [u64L]
theorem u64L_len (l : List Int) : (u64L l).length = l.length := by simp [u64L]
/-- A pool in memory. -/
structure PoS (w : World) (B mb : Nat) (lv : Value) (c : CfgD) (p : PoD) (n : Nat) : Prop where
  blk : Blk w B 130 (poA c p mb lv)
  map : NMap mtU w mb n (cntF p.nm)
  lim : w.ownsRow 0 22 1 lv p.lm.length (u64L p.lm)
def PF (B mb : Nat) (lv : Value) (x : Nat) : Prop := x = B ∨ x = mb ∨ lv.ownBlock = some x
structure PoC (w : World) (B mb : Nat) (lv : Value) (p : PoD) : Prop where
  seq : w.cell? ⟨B, 23, none⟩ = some (.int .u64 p.seq)
  stage : w.cell? ⟨B, 24, none⟩ = some (.int .i64 p.stage)
  pos : w.cell? ⟨B, 25, none⟩ = some (.int .i64 p.pos)
  st : w.cell? ⟨B, 26, none⟩ = some (.int .i64 p.st)
  nm : w.cell? ⟨B, 27, none⟩ = some (.map (some mb))
  lm : w.cell? ⟨B, 28, none⟩ = some lv
  sd : w.cell? ⟨B, 29, none⟩ = some (.bool p.sd)
  wt : w.cell? ⟨B, 30, none⟩ = some (.int .i64 p.wt)
  wl : w.cell? ⟨B, 31, none⟩ = some (.int .i64 p.wl)
  nt : w.cell? ⟨B, 32, none⟩ = some (.int .i64 p.nt)
  nl : w.cell? ⟨B, 33, none⟩ = some (.int .i64 p.nl)
theorem blk_map {w : World} {B : Nat} {t : TypeId} {cs : Array Value} {c : CfgD} (h : Blk w B t cs) (hc : ∀ (j : Nat) (u : Value), (mapA c)[j]? = some u → cs[j]? = some u) : (loadMap ⟨B, 0, none⟩).run Try.prog w = .ok (.agg (mapA c)) w :=
  run_loadVar_mid w B 0 31 (mapA c).toList _ (fun j u hu => by
    rw [Blk.cell h, Nat.zero_add]
    exact hc j u (by simpa using hu)) Try.underlying31 rfl (by kernel_rfl)
section
variable {w w' : World} {B mb : Nat} {lv : Value} {c : CfgD} {p : PoD} {n : Nat} {S : Nat → Prop}
theorem PoS.cells (h : PoS w B mb lv c p n) : PoC w B mb lv p :=
  ⟨h.blk.cell 23, h.blk.cell 24, h.blk.cell 25, h.blk.cell 26, h.blk.cell 27, h.blk.cell 28, h.blk.cell 29, h.blk.cell 30, h.blk.cell 31, h.blk.cell 32, h.blk.cell 33⟩
theorem PoS.ldm (h : PoS w B mb lv c p n) : (loadMap ⟨B, 0, none⟩).run Try.prog w = .ok (.agg (mapA c)) w :=
  blk_map h.blk (fun j u hu => by
    rw [← hu]
    match j with
    | 0 | 1 | 2 | 3 | 4 | 5 | 6 | 7 | 8 | 9 | 10 | 11 | 12 | 13 | 14 | 15 | 16 | 17 | 18 | 19 | 20 | 21 | 22 => rfl
    | n + 23 => simp [mapA] at hu)
theorem PoS.lt (h : PoS w B mb lv c p n) {x : Nat} (hx : PF B mb lv x) : x < w.heap.size := by
  rcases hx with rfl | rfl | hx
  · exact h.blk.lt
  · exact h.map.lt
  · exact (h.lim.lt x hx).2
theorem PoS.kept (h : PoS w B mb lv c p n) (k : Kept S w w') (hS : ∀ x, PF B mb lv x → ¬ S x) : PoS w' B mb lv c p n :=
  ⟨k.blk h.blk (hS _ (.inl rfl)), h.map.kept k (hS _ (.inr (.inl rfl))), k.own h.lim (fun x hx => hS x (.inr (.inr hx)))⟩
theorem PoS.keep (h : PoS w B mb lv c p n) (k : Kept (fun _ => False) w w') : PoS w' B mb lv c p n := h.kept k (fun _ _ h => h)
theorem PoS.fld (h : PoS w B mb lv c p n) (i : Nat) (u : Value) {p' : PoD} (e : (poA c p mb lv).setIfInBounds i u = poA c p' mb lv) (h1 : p'.nm = p.nm) (h2 : p'.lm = p.lm) : PoS (w.setCell ⟨B, i, none⟩ u) B mb lv c p' n := by
  have K : Kept (fun k => k = B) w (w.setCell ⟨B, i, none⟩ u) := (Kept.refl _ w).setAt u
  refine ⟨e ▸ h.blk.set_ i u, ?_, ?_⟩
  · rw [h1]; exact h.map.kept K (h.map.ne h.blk)
  · rw [h2]
    refine K.own h.lim ?_
    rintro x hx rfl
    exact own_blk_ne h.lim h.blk (by decide) hx.symm
theorem PoS.drewN (h : PoS w B mb lv c p n) (q : Nat) : PoS (w.drewN q) B mb lv c p n := h.keep ((Kept.refl _ _).drewN q)
end
/-- A pool that turned, all else kept. -/
def PoT (w : World) (B mb : Nat) (lv : Value) (c : CfgD) (p : PoD) (n : Nat) (e : Ending) (w' : World) : Prop :=
  e = .returned (.tuple #[]) ∧ ∃ lv', PoS w' B mb lv' c p n ∧ Kept (PF B mb lv) w w' ∧ ∀ x, lv'.ownBlock = some x → lv.ownBlock = some x ∨ w.heap.size ≤ x
theorem PF.b {w w' : World} {B mb : Nat} {lv : Value} (k : Kept (fun x => x = B) w w') : Kept (PF B mb lv) w w' := k.mono (fun _ _ h => .inl h)

theorem newP_calls (c : CfgD) (seq : Int) (w : World) : Calls Try.prog 20 #[.agg (mapA c), .int .u64 seq] w fun e w' => ∃ B mb, e = .returned (.pointer (some ⟨B, 0, none⟩)) ∧ PoS w' B mb (.slice none 0 0) c ⟨seq, 0, 0, 0, [], [], false, 0, 0, 0, 0⟩ 0 ∧ Kept (fun _ => False) w w' ∧ w.heap.size ≤ B ∧ w.heap.size ≤ mb := by
  have hmm := @run_makeMap Try.prog
  have hM : ∀ o, NMap mtU ((w.alloc o).alloc (.map #[] 0)) (w.heap.size + 1) 0 (cntF []) := fun o => by
    have := NMap.made mtU (w.alloc o)
    rw [show (w.alloc o).heap.size = w.heap.size + 1 by simp] at this
    exact this
  have hl : (loadMap ⟨w.heap.size, 0, none⟩).run Try.prog (w.alloc (.cells (mapA c) 31)) = .ok (.agg (mapA c)) (w.alloc (.cells (mapA c) 31)) := loadMap_arr (Blk.new _ _ _) rfl
  unfold mapA at hl ⊢
  go_enter Try.func20, Try.ntmps20
  go_wp2_with fail
  go_ret
  exact ⟨_, _, rfl, ⟨Blk.new' _ _ _ _ (by simp), NMap.kept (S := fun _ => False) (hM _) ((Kept.refl _ _).alloc _) (fun h => h), World.ownsRow_nil _ _ _ _⟩, (((Kept.refl _ _).alloc _).alloc _).alloc _, by omega, by omega⟩

def PoD.cells (c : CfgD) (p : PoD) : Int := if p.stage = 0 then c.t else if p.stage = 1 then 1 else if p.stage = 2 then 1 else if p.stage = 3 then p.wl else 0
def PoD.goOn (c : CfgD) (p : PoD) : PoD :=
  if p.pos + 1 < p.cells c then { p with pos := p.pos + 1 }
  else if ({ p with stage := p.stage + 1, pos := 0 } : PoD).cells c = 0 then { p with stage := p.stage + 1, pos := 0, st := 1 } else { p with stage := p.stage + 1, pos := 0 }
section
variable {w : World} {B mb : Nat} {lv : Value} {c : CfgD} {p : PoD} {n : Nat}
theorem statusP_calls (h : PoS w B mb lv c p n) : Calls Try.prog 23 #[.pointer (some ⟨B, 0, none⟩)] w fun e w' => e = .returned (.int .i64 p.st) ∧ w' = w := by
  have c1 := h.cells.st
  clear h
  go_enter Try.func23, Try.ntmps23
  go_wp2_with fail
  go_ret
  exact ⟨rfl, rfl⟩
theorem markP_calls (h : PoS w B mb lv c p n) : Calls Try.prog 30 #[.pointer (some ⟨B, 0, none⟩)] w fun e w' => e = .returned (.agg #[.int .i64 p.nt, .int .i64 p.nl]) ∧ Kept (fun _ => False) w w' := by
  have h1 := h.keep ((Kept.refl _ w).alloc (.cells #[.int .i64 0, .int .i64 0] 83))
  have c1 := h1.cells.nt
  have c2 := h1.cells.nl
  clear h h1
  go_enter Try.func30, Try.ntmps30
  go_wp2_with fail
  exact bodyPost_ret (v := .agg #[.int .i64 p.nt, .int .i64 p.nl]) (results_cell_row rfl _ _ w.heap.size 83 #[.int .i64 p.nt, .int .i64 p.nl] (0, 0) _ rfl (Blk.new _ _ _) Try.underlying83 rfl (by kernel_rfl)) rfl ⟨rfl, (Kept.refl _ _).alloc _⟩
theorem fld_cfg_t (c : CfgD) (W : World) : (Instr.field 24 (.agg #[.int .i64 c.t, .int .i64 c.b, .int .i64 c.wr, .int .i64 c.f, .int .u64 c.first, .int .u64 c.last]) 0).run Try.prog W = .ok (.int .i64 c.t) W := by kernel_rfl
theorem fld_cfg_b (c : CfgD) (W : World) : (Instr.field 24 (.agg #[.int .i64 c.t, .int .i64 c.b, .int .i64 c.wr, .int .i64 c.f, .int .u64 c.first, .int .u64 c.last]) 1).run Try.prog W = .ok (.int .i64 c.b) W := by kernel_rfl
set_option maxRecDepth 100000 in
theorem cellsP_calls (h : PoS w B mb lv c p n) : Calls Try.prog 92 #[.pointer (some ⟨B, 0, none⟩)] w fun e w' => e = .returned (.int .i64 (p.cells c)) ∧ Kept (fun _ => False) w w' := by
  have c1 := h.cells.stage
  have c2 := h.cells.wl
  have hl := h.ldm
  clear h
  by_cases h0 : p.stage = 0
  · have HE : Hid (p.cells c = c.t) := Lib.hid (by unfold PoD.cells; rw [if_pos h0])
    rw [h0] at c1
    have hf := fld_cfg_t c
    clear h0
    go_enter Try.func92, Try.ntmps92
    go_wp2_with (go_at_call 70; (refine (cfg_calls c _).mono ?_); rintro e w1 ⟨rfl, hk⟩; have HK := Lib.hid (keepB hk); clear hk; unfold cfgV)
    go_ret
    exact ⟨by rw [HE.out]; rfl, HK.out⟩
  have h0' : (p.stage == 0) = false := by simpa using h0
  by_cases h1 : p.stage = 1
  · have HE : Hid (p.cells c = 1) := Lib.hid (by unfold PoD.cells; rw [if_neg h0, if_pos h1])
    rw [h1] at c1
    clear h0 h1
    go_enter Try.func92, Try.ntmps92
    go_wp2_with fail
    go_ret
    exact ⟨by rw [HE.out]; rfl, Kept.refl _ _⟩
  have h1' : (p.stage == 1) = false := by simpa using h1
  by_cases h2 : p.stage = 2
  · have HE : Hid (p.cells c = 1) := Lib.hid (by unfold PoD.cells; rw [if_neg h0, if_neg h1, if_pos h2])
    rw [h2] at c1
    clear h0 h1 h2
    go_enter Try.func92, Try.ntmps92
    go_wp2_with fail
    go_ret
    exact ⟨by rw [HE.out]; rfl, Kept.refl _ _⟩
  have h2' : (p.stage == 2) = false := by simpa using h2
  by_cases h3 : p.stage = 3
  · have HE : Hid (p.cells c = p.wl) := Lib.hid (by unfold PoD.cells; rw [if_neg h0, if_neg h1, if_neg h2, if_pos h3])
    rw [h3] at c1
    clear h0 h1 h2 h3
    go_enter Try.func92, Try.ntmps92
    go_wp2_with fail
    go_ret
    exact ⟨by rw [HE.out]; rfl, Kept.refl _ _⟩
  · have HE : Hid (p.cells c = 0) := Lib.hid (by unfold PoD.cells; rw [if_neg h0, if_neg h1, if_neg h2, if_neg h3])
    have h3' : (p.stage == 3) = false := by simpa using h3
    clear h0 h1 h2 h3
    go_enter Try.func92, Try.ntmps92
    go_wp2_with fail
    go_ret
    exact ⟨by rw [HE.out]; rfl, Kept.refl _ _⟩
theorem atMost_calls (v m : Int) (hv : 0 ≤ v ∧ v ≤ 18446744073709551615) (hm : 0 ≤ m ∧ m ≤ 100000) (w : World) : Calls Try.prog 69 #[.int .u64 v, .int .i64 m] w fun e w' => e = .returned (.int .i64 (min v m)) ∧ w' = w := by
  have e1 : IntKind.u64.wrap m = m := IntWalk.u64_in _ (by omega)
  have e2 : IntKind.i64.wrap (min v m) = min v m := IntWalk.i64_in _ (by omega)
  go_enter Try.func69, Try.ntmps69
  go_wp2_with fail
  go_ret
  exact ⟨rfl, rfl⟩
end
end Go.Proofs.Ythjkodjpopcjaaa
