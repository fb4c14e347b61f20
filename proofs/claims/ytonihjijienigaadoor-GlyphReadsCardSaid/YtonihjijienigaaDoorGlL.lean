/- Layer 2 (glyph): Lines. -/
import Derived.Test.YtonihjijienigaaDoorGlH
import Derived.Test.YtonihjijienigaaDoorGlK
import Derived.RangeFuncNested
import Derived.RangeFuncBound
import Derived.RangeFuncCalls
import Derived.RangeFuncLeaves
import Derived.Shelf.Abstract
import Derived.Shelf.RegionOpen
import Derived.OwnWalkIn
import Derived.TacticsInMore
import Derived.LoopNIn
import Derived.LoopIn
namespace Go.Proofs.YtonihjijienigaaDoor
open Go.RowKit Go.Shelf
attribute [local go_sem] Oper.semAt_some

structure Ln where
  A : Option Addr
  c : Nat
  l : List Tok
def encLn (x : Ln) : Array Value := #[.slice x.A x.l.length x.c]
def RowL (x : Ln) (W : World) : Prop := W.ownsRow 0 39 5 (.slice x.A x.l.length x.c) x.l.length (flatT x.l)
def KpY (B : Nat) (W W' : World) : Prop := (∀ (k : Nat) (cs : Array Value) (fr : Nat × Nat), W.heap[k]? = some (Obj.cells cs 39 fr) → W'.heap[k]? = some (Obj.cells cs 39 fr)) ∧ (∀ v, Boxed W B 23 v → Boxed W' B 23 v)
/-- Tokens, line by line, without the ends. -/
def linesP : List Tok → List Tok → List (List Tok)
  | [], cur => if cur = [] then [] else [cur]
  | t :: l, cur => if t.kind = 3 then cur :: linesP l [] else linesP l (cur ++ [t])
theorem linesP_len (l : List Tok) : ∀ cur, (linesP l cur).length ≤ l.length + 1 := by
  induction l with
  | nil => intro cur; unfold linesP; split <;> simp
  | cons t l ih =>
    intro cur
    unfold linesP
    split
    · have := ih []; simp; omega
    · have := ih (cur ++ [t]); simp; omega
theorem own_base {w : World} {base base' : Nat} {e : TypeId} {size n : Nat} {v : Value} {xs : List Value} (h : w.ownsRow base e size v n xs) (hb : base' ≤ base) : w.ownsRow base' e size v n xs := by
  refine ⟨h.1, ?_⟩
  rcases h.2 with h0 | ⟨g, cap, cur, hv, hg, rest⟩
  · exact .inl h0
  · exact .inr ⟨g, cap, cur, hv, Nat.le_trans hb hg, rest⟩
theorem own_tok_keep {W W' : World} {base size n : Nat} {v : Value} {xs : List Value} (h : W.ownsRow base 39 size v n xs)
    (hk : ∀ (k : Nat) (cs : Array Value) (fr : Nat × Nat), W.heap[k]? = some (Obj.cells cs 39 fr) → W'.heap[k]? = some (Obj.cells cs 39 fr)) : W'.ownsRow base 39 size v n xs := by
  refine ⟨h.1, ?_⟩
  rcases h.2 with h0 | ⟨g, cap, cur, hv, hg, hh, rest⟩
  · exact .inl h0
  · exact .inr ⟨g, cap, cur, hv, hg, hk _ _ _ hh, rest⟩
theorem grown_of_below {W W' : World} (h : Below W.heap.size W W') : W.grownBy W' none := ⟨h.os, h.tape, h.output, h.size, fun k hk _ => h.block k hk⟩
theorem own_nil {w : World} {base size n c : Nat} {e : TypeId} {xs : List Value} (h : w.ownsRow base e size (.slice none n c) n xs) : n = 0 ∧ c = 0 := by
  rcases h.2 with ⟨hv, h0⟩ | ⟨g, cap, cur, hv, _⟩
  · injection hv with _ _ h3
    exact ⟨h0, h3⟩
  · injection hv with h1
    cases h1
theorem own_some {w : World} {base size n c : Nat} {e : TypeId} {A : Option Addr} {xs : List Value} (h : w.ownsRow base e size (.slice A n c) n xs) (hn : 0 < n) : ∃ g, A = some ⟨g, 0, none⟩ ∧ n ≤ c := by
  rcases h.2 with ⟨_, h0⟩ | ⟨g, cap, cur, hv, _, _, hnc, _⟩
  · omega
  · injection hv with h1 _ h3
    exact ⟨g, h1, by omega⟩
def subA (g f c : Nat) : Option Addr := if c = f then some ⟨g, 0, none⟩ else some ⟨g, f * 5, none⟩
theorem run_sub (W : World) (g n c f i : Nat) (hf : f ≤ i) (hi : i ≤ c) :
    (Instr.slice 23 (.slice (some ⟨g, 0, none⟩) n c) (some (.int .i64 (f : Int))) (some (.int .i64 (i : Int))) none).run Tryd.prog W = .ok (.slice (subA g f c) (i - f) (c - f)) W := by
  rw [run_slice_lh W 23 (some ⟨g, 0, none⟩) n c (by kernel_rfl) .i64 .i64 (f : Int) (i : Int) (by omega) (by omega) (by omega)]
  have hs : (sizeOf (Tryd.prog.elem 23)).run Tryd.prog W = .ok 5 W := by kernel_rfl
  rw [hs]
  simp only [Result.andThen, sliced, subA, Int.toNat_natCast]
  split <;> simp [addr_off]
theorem run_subl (W : World) (g n c f : Nat) (hf : f ≤ n) :
    (Instr.slice 23 (.slice (some ⟨g, 0, none⟩) n c) (some (.int .i64 (f : Int))) none none).run Tryd.prog W = .ok (.slice (subA g f c) (n - f) (c - f)) W := by
  rw [run_slice_l W 23 (some ⟨g, 0, none⟩) n c (by kernel_rfl) .i64 (f : Int) (by omega) (by omega)]
  have hs : (sizeOf (Tryd.prog.elem 23)).run Tryd.prog W = .ok 5 W := by kernel_rfl
  rw [hs]
  simp only [Result.andThen, sliced, subA, Int.toNat_natCast]
  split <;> simp [addr_off]
theorem TokAt.sub {W : World} {g c f i : Nat} {l : List Tok} (h : TokAt W (some ⟨g, 0, none⟩) l) (hi : i ≤ l.length) (hc : l.length ≤ c) : TokAt W (subA g f c) ((l.drop f).take (i - f)) := fun h0 => by
  have hlt : f < i := by
    rw [List.length_take] at h0
    omega
  obtain ⟨b, off, hA, hb, hcell⟩ := h (by omega)
  have e := Option.some.inj hA
  injection e with e1 e2
  subst e1 e2
  refine ⟨g, f * 5, by unfold subA; rw [if_neg (by omega)], hb, fun k t ht j u hu => ?_⟩
  rw [List.getElem?_take] at ht
  split at ht
  · rw [List.getElem?_drop] at ht
    have := hcell (f + k) t ht j u hu
    rw [Nat.zero_add] at this
    rw [← Nat.add_mul]
    exact this
  · cases ht

theorem sub_snoc (l : List Tok) (f i : Nat) (hf : f ≤ i) (hi : i < l.length) : (l.drop f).take (i + 1 - f) = (l.drop f).take (i - f) ++ [l[i]] := by
  rw [show i + 1 - f = (i - f) + 1 by omega, List.take_succ_eq_append_getElem (by simp; omega)]
  congr 2
  rw [List.getElem_drop]
  congr 1
  omega

set_option maxRecDepth 100000 in
set_option maxHeartbeats 4000000 in
theorem lines1_in (l : List Tok) (A : Option Addr) (c B : Nat) (hl : l.length ≤ 70000) (n : Nat) (hn : 3 ≤ n) (lp : Nat) (J Jx : List Ln → World → Prop) (W : World) (hJ : AbidesFrom W.heap.size J)
    (hY : ∀ pre x W1, J pre W1 → RowL x W1 → pre.length < (linesP l []).length → YieldAt Fence.wide (n - 1) Tryd.prog lp (encLn x) W1 fun e W' =>
      (e = .returned (.bool true) ∧ J (pre ++ [x]) W' ∧ KpY B W1 W') ∨ (e = .returned (.bool false) ∧ Jx (pre ++ [x]) W'))
    (hR : W.ownsRow 0 39 5 (.slice A l.length c) l.length (flatT l)) (hB : Boxed W B 23 (.slice A l.length c)) (h0 : J [] W) :
    CallsIn Fence.wide n Tryd.prog 42 #[.func (.yield lp) #[] #[], .pointer (some ⟨B, 0, none⟩)] W fun e W' => (∃ v, e = .returned v) ∧
      ((∃ ys : List Ln, ys.map Ln.l = linesP l [] ∧ J ys W') ∨ (∃ pre : List Ln, pre.map Ln.l <+: linesP l [] ∧ Jx pre W')) := by
  have h1n : 1 ≤ n := by omega
  have tf : ∀ f, Fence.wide.fn f := fun _ => trivial
  obtain ⟨all, hall⟩ : ∃ all, linesP l [] = all := ⟨_, rfl⟩
  rw [hall] at hY ⊢
  obtain ⟨N, hN⟩ : ∃ N, l.length = N := ⟨_, rfl⟩
  rw [hN] at hl hR hB
  have HALL := Lib.hid hall
  have HNN := Lib.hid hN
  have HBX := Lib.hid hB
  have HRR := Lib.hid hR
  have hJ' : ∀ (pre : List Ln) (W1 W2 : World), J pre W1 → Below W1.heap.size W1 W2 → J pre W2 := fun _ _ _ h b => hJ _ _ _ none h (grown_of_below b) (fun r e => by cases e)
  have HJA := Lib.hid hJ'
  clear hall hN hR hJ hJ'
  have cB := hB.cell
  refine callsIn_of_wp Tryd.func42 rfl trivial ?_ rfl
  simp only [Tryd.ntmps42, List.size_toArray, List.length_cons, List.length_nil, Nat.reduceAdd, Nat.reduceSub, Array.replicate_succ, Array.replicate_zero, List.push_toArray, List.append_toArray, List.nil_append, List.cons_append]
  gi_wp2
  gi_loopw [3, 8] (fun vf vi wr => ∃ (pre : List Ln) (f i : Nat), vf = .int .i64 (f : Int) ∧ vi = .int .i64 (i : Int) ∧ Hid (f ≤ i ∧ i ≤ N) ∧ Hid (pre.map Ln.l ++ linesP (l.drop i) ((l.drop f).take (i - f)) = all) ∧
      Hid (J pre wr) ∧ Hid (wr.ownsRow 0 39 5 (.slice A N c) N (flatT l)) ∧ Hid (Boxed wr B 23 (.slice A N c)))
    (fun _ vi _ => N - (intOf vi).toNat)
  case atStart =>
    exact ⟨[], 0, 0, rfl, rfl, Lib.hid ⟨by omega, by omega⟩, Lib.hid HALL.out, Lib.hid h0, Lib.hid HRR.out, Lib.hid hB⟩
  case round =>
    obtain ⟨pre, f, i, rfl, rfl, HI, HM, HJ, HR, HB⟩ := hrel
    by_cases hi : i < N
    · have hkl : i < l.length := by rw [HNN.out]; exact hi
      obtain ⟨T, hT⟩ : ∃ T, l[i] = T := ⟨_, rfl⟩
      have hdrop : l.drop i = T :: l.drop (i + 1) := by rw [List.drop_eq_getElem_cons hkl, hT]
      have hm := HM.out
      rw [hdrop, linesP] at hm
      have hsn := sub_snoc l f i HI.out.1 hkl
      rw [hT] at hsn
      have HSN := Lib.hid hsn
      have HM1 := Lib.hid hm
      obtain ⟨g0, rfl, hnc⟩ := own_some HR.out (by omega)
      have htok := TokAt.of_own HR.out HNN.out
      obtain ⟨b, off, hA, hb, q0, q1, q2, q3, q4⟩ := tok_cells htok hkl
      have e := Option.some.inj hA
      injection e with e1 e2
      subst e1 e2
      rw [hT] at q0 q1 q2 q3 q4
      rw [Nat.zero_add] at q0 q1 q2 q3 q4
      have HTA := Lib.hid htok
      have HKL := Lib.hid hkl
      clear hm hsn hdrop HM hA htok hT hkl
      gi_wp2_with (refine wpListIn_store_tok wr.heap.size _ T (heap_alloc_new _ _) rfl _ _ rfl rfl rfl rfl ?_; refine Hid.out ?_)
      refine Lib.hid ?_
      have hb2 := below_setRow ((Below.refl _ wr).alloc (Nat.le_refl _) (.cells #[.int .i64 0, .string ⟨#[]⟩, .int .u64 0, .int .i64 0, .int .i64 0] 39)) (Nat.le_refl _) (tokC T)
      have hg2 : Blk ((wr.alloc (.cells #[.int .i64 0, .string ⟨#[]⟩, .int .u64 0, .int .i64 0, .int .i64 0] 39)).setRow wr.heap.size (tokC T)) wr.heap.size 39 (tokC T) := heap_setRow _ _ _ _ _ _ (heap_alloc_new _ _)
      obtain ⟨g, hg⟩ : ∃ g, wr.heap.size = g := ⟨_, rfl⟩
      obtain ⟨w2, hw2⟩ : ∃ w2, (wr.alloc (.cells #[.int .i64 0, .string ⟨#[]⟩, .int .u64 0, .int .i64 0, .int .i64 0] 39)).setRow wr.heap.size (tokC T) = w2 := ⟨_, rfl⟩
      rw [hw2] at hb2 hg2 ⊢
      have HJ2 := Lib.hid (HJA.out _ _ _ HJ.out hb2)
      have HR2 := Lib.hid (own_below HR.out hb2)
      have hB2 : Boxed w2 B 23 (.slice (some ⟨g0, 0, none⟩) N c) := (hb2.block B HB.out.lt).trans HB.out
      have HTA2 := Lib.hid (HTA.out.on hb2)
      rw [hg] at hg2 ⊢
      have p0 : w2.cell? ⟨g, 0, none⟩ = some (.int .i64 T.kind) := hg2.cell 0
      have HBB2 := Lib.hid hB2
      have cB2 := hB2.cell
      clear hw2 hb2 hg2 q0 q1 q2 q3 q4 hg hB2
      have hi1 : (i : Int) + 1 ≤ 70000 := by omega
      by_cases h3 : T.kind = 3
      · have n3 : (T.kind != 3) = false := by simpa using h3
        have hm3 := HM1.out
        rw [if_pos h3] at hm3
        have HM3 := Lib.hid hm3
        have hf := HI.out.1
        have hic : i ≤ c := by omega
        have hsl := fun W' => run_sub W' g0 N c f i hf hic
        have hsub := TokAt.sub (f := f) (i := i) (c := c) HTA2.out (by rw [HNN.out]; omega) (by rw [HNN.out]; exact hnc)
        have hsl1 : ((l.drop f).take (i - f)).length = i - f := by rw [List.length_take, List.length_drop, HNN.out]; omega
        have hcl := clone_tok (subA g0 f c) ((l.drop f).take (i - f)) (c - f) w2 hsub (fun h => by unfold subA at h; split at h <;> cases h) (by rw [hsl1]; omega)
        obtain ⟨L, hL⟩ : ∃ L, (l.drop f).take (i - f) = L := ⟨_, rfl⟩
        rw [hL] at hcl hsl1 HM3
        rw [hsl1] at hcl
        have HCL := Lib.hid hcl
        have HLL := Lib.hid hsl1
        clear hcl hsub hL hm3 h3 hsl1
        gi_wp2_with ((try with_reducible refine ⟨tf _, ?_⟩); gi_at_call 41; refine (callsIn_wide.2 HCL.out).mono ?_; rintro e w4 ⟨A2, c2, rfl, ho4, hb4⟩; refine Hid.out ?_)
        refine Lib.hid ?_
        have HJ4 := HJA.out _ _ _ HJ2.out hb4
        have hlen : pre.length < all.length := by rw [← HM3.out]; simp
        have hrow : RowL ⟨A2, c2, L⟩ w4 := by
          show World.ownsRow w4 0 _ 5 (.slice A2 L.length c2) L.length (flatT L)
          rw [HLL.out]
          exact own_base ho4 (Nat.zero_le _)
        obtain ⟨fn, tmps, assign, body, hy, hrd⟩ := hY pre ⟨A2, c2, L⟩ w4 HJ4 hrow hlen
        simp only [encLn, HLL.out] at hy
        have HR4 := Lib.hid (own_below HR2.out hb4)
        have HB4 := Lib.hid ((hb4.block B HBB2.out.lt).trans HBB2.out : Boxed w4 B 23 _)
        clear HJ4 hlen hrow ho4 hb4
        gi_wp2
        refine hrd.mono ?_
        rintro e W3 (⟨rfl, hJ3, hk3⟩ | ⟨rfl, hJx3⟩)
        · have HJ3 := Lib.hid hJ3
          have HR3 := Lib.hid (own_tok_keep HR4.out hk3.1)
          have HB3 := Lib.hid (hk3.2 _ HB4.out)
          clear hJ3 hk3
          gi_wp2
          go_roundw
          case rel =>
            refine ⟨pre ++ [⟨A2, c2, L⟩], i + 1, i + 1, by go_num, by go_num, Lib.hid ⟨by omega, by omega⟩, Lib.hid ?_, HJ3, HR3, HB3⟩
            rw [← HM3.out, List.map_append, Nat.sub_self, List.take_zero]
            simp
          case measure => simp [intOf]; omega
        · gi_wp2
          refine bodyPost_ret (results_none rfl _ _ _) rfl ?_
          refine ⟨⟨_, rfl⟩, .inr ⟨pre ++ [⟨A2, c2, L⟩], ⟨linesP (l.drop (i + 1)) [], ?_⟩, hJx3⟩⟩
          rw [← HM3.out, List.map_append]
          simp
      · have n3 : (T.kind != 3) = true := by simpa using h3
        have hm3 := HM1.out
        rw [if_neg h3, ← HSN.out] at hm3
        have HM3 := Lib.hid hm3
        clear hm3 h3
        gi_wp2
        go_roundw
        case rel => exact ⟨pre, f, i + 1, rfl, by go_num, Lib.hid ⟨by have := HI.out.1; omega, by omega⟩, HM3, HJ2, HR2, HBB2⟩
        case measure => simp [intOf]; omega
    · have hiN : i = N := by have := HI.out.2; omega
      subst hiN
      have hm := HM.out
      rw [List.drop_of_length_le (by rw [HNN.out]; exact Nat.le_refl _), linesP] at hm
      have hcur : ((l.drop f).take (i - f)).length = i - f := by rw [List.length_take, List.length_drop, HNN.out]; omega
      have hfi := HI.out.1
      have cB2 := HB.out.cell
      by_cases hfn : f < i
      · rw [if_neg (fun h => by rw [h] at hcur; simp at hcur; omega)] at hm
        obtain ⟨g0, rfl, hnc⟩ := own_some HR.out (by omega)
        have htok := TokAt.of_own HR.out HNN.out
        have hsub := TokAt.sub (f := f) (i := i) (c := c) htok (by rw [HNN.out]; exact Nat.le_refl _) (by rw [HNN.out]; exact hnc)
        have hsl := fun W' => run_subl W' g0 i c f hfi
        have hcl := clone_tok (subA g0 f c) ((l.drop f).take (i - f)) (c - f) wr hsub (fun h => by unfold subA at h; split at h <;> cases h) (by rw [hcur]; omega)
        obtain ⟨L, hL⟩ : ∃ L, (l.drop f).take (i - f) = L := ⟨_, rfl⟩
        rw [hL] at hcl hcur hm
        rw [hcur] at hcl
        have HCL := Lib.hid hcl
        have HLL := Lib.hid hcur
        have HM3 := Lib.hid hm
        clear hcl hsub hL hm hcur htok HM
        gi_wp2_with ((try with_reducible refine ⟨tf _, ?_⟩); gi_at_call 41; refine (callsIn_wide.2 HCL.out).mono ?_; rintro e w4 ⟨A2, c2, rfl, ho4, hb4⟩; refine Hid.out ?_)
        refine Lib.hid ?_
        have HJ4 := HJA.out _ _ _ HJ.out hb4
        have hlen : pre.length < all.length := by rw [← HM3.out]; simp
        have hrow : RowL ⟨A2, c2, L⟩ w4 := by
          show World.ownsRow w4 0 _ 5 (.slice A2 L.length c2) L.length (flatT L)
          rw [HLL.out]
          exact own_base ho4 (Nat.zero_le _)
        obtain ⟨fn, tmps, assign, body, hy, hrd⟩ := hY pre ⟨A2, c2, L⟩ w4 HJ4 hrow hlen
        simp only [encLn, HLL.out] at hy
        clear HJ4 hlen hrow ho4 hb4
        gi_wp2
        refine hrd.mono ?_
        rintro e W3 (⟨rfl, hJ3, hk3⟩ | ⟨rfl, hJx3⟩)
        · gi_wp2
          go_end0
          exact ⟨⟨_, rfl⟩, .inl ⟨pre ++ [⟨A2, c2, L⟩], by rw [← HM3.out, List.map_append]; rfl, hJ3⟩⟩
        · gi_wp2
          go_end0
          exact ⟨⟨_, rfl⟩, .inr ⟨pre ++ [⟨A2, c2, L⟩], ⟨[], by rw [← HM3.out, List.map_append, List.append_nil]; rfl⟩, hJx3⟩⟩
      · have hz : i - f = 0 := by omega
        rw [if_pos (by rw [hz, List.take_zero]), List.append_nil] at hm
        have HM3 := Lib.hid hm
        clear hm hcur HM hz
        gi_wp2
        go_end0
        exact ⟨⟨_, rfl⟩, .inl ⟨pre, HM3.out, HJ.out⟩⟩

/-- **Lines(list)**: the list's clone is boxed; the function value captures the box. -/
theorem lines_calls (A : Option Addr) (l : List Tok) (c : Nat) (w : World) (hA : TokAt w A l) (hnil : A = none → l = [] ∧ c = 0) (hl : l.length ≤ 70000) :
    Calls Tryd.prog 22 #[.slice A l.length c] w fun e w' => ∃ B A' c', e = .returned (.func (.func 42) #[] #[.pointer (some ⟨B, 0, none⟩)]) ∧
      w'.ownsRow w.heap.size 39 5 (.slice A' l.length c') l.length (flatT l) ∧ Boxed w' B 23 (.slice A' l.length c') ∧ w.heap.size ≤ B ∧ Below w.heap.size w w' := by
  have hcl := clone_tok A l c w hA hnil hl
  obtain ⟨n, hn⟩ : ∃ n, l.length = n := ⟨_, rfl⟩
  rw [hn] at hcl ⊢
  have HCL := Lib.hid hcl
  clear hcl hA hnil hl hn
  go_enter Tryd.func22, Tryd.ntmps22
  go_wp2_with (go_at_call 41; refine HCL.out.mono ?_; rintro e w4 ⟨A2, c2, rfl, ho4, hb4⟩)
  go_ret
  exact ⟨w4.heap.size, A2, c2, rfl, ho4.alloc _, Boxed.new w4 _ _, hb4.size, hb4.alloc hb4.size _⟩
theorem lines_stops (l : List Tok) (A : Option Addr) (c B : Nat) (hl : l.length ≤ 70000) (n : Nat) (hn : 3 ≤ n) (w : World)
    (hR : w.ownsRow 0 39 5 (.slice A l.length c) l.length (flatT l)) (hB : Boxed w B 23 (.slice A l.length c)) :
    SeqStopsY Fence.wide n Tryd.prog 42 #[.pointer (some ⟨B, 0, none⟩)] encLn (KpY B) RowL (fun ys => ys.map Ln.l = linesP l []) (fun pre => pre.map Ln.l <+: linesP l []) (linesP l []).length w :=
  fun lp J Jx W hW hJ _ hY h0 => lines1_in l A c B hl n hn lp J Jx W hJ hY (own_below hR hW) ((hW.block B hB.lt).trans hB) h0
end Go.Proofs.YtonihjijienigaaDoor
