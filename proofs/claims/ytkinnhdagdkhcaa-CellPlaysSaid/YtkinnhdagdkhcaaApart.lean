/- CellApart: the walk of the law. -/
import Derived.Test.YtkinnhdagdkhcaaCellK
namespace Go.Proofs.Ytkinnhdagdkhcaa
open Go.RowKit

theorem step_cells {w : World} {A : Option Addr} {l : List StepD} (h : StepsAt w A l) {k : Nat} (hk : k < l.length) : ∃ b off, A = some ⟨b, off, none⟩ ∧ b < w.heap.size ∧
    w.cell? ⟨b, off + k * 7, none⟩ = some (.int .i64 l[k].who) ∧ w.cell? ⟨b, off + k * 7 + 1, none⟩ = some (.int .i64 l[k].k) ∧ w.cell? ⟨b, off + k * 7 + 2, none⟩ = some (.int .i64 l[k].i) ∧
    w.cell? ⟨b, off + k * 7 + 3, none⟩ = some (.int .u64 l[k].o.1) ∧ w.cell? ⟨b, off + k * 7 + 4, none⟩ = some (.int .u64 l[k].o.2) ∧ w.cell? ⟨b, off + k * 7 + 5, none⟩ = some (.int .u64 l[k].n.1) ∧ w.cell? ⟨b, off + k * 7 + 6, none⟩ = some (.int .u64 l[k].n.2) := by
  obtain ⟨b, off, hA, hb, hc⟩ := h (by omega)
  have hk' := hc k l[k] (List.getElem?_eq_getElem hk)
  exact ⟨b, off, hA, hb, hk' 0 _ rfl, hk' 1 _ rfl, hk' 2 _ rfl, hk' 3 _ rfl, hk' 4 _ rfl, hk' 5 _ rfl, hk' 6 _ rfl⟩
theorem StepsAt.kept {w w' : World} {A : Option Addr} {l : List StepD} (h : StepsAt w A l) (k : Kept (fun _ => False) w w') : StepsAt w' A l := fun h0 => by
  obtain ⟨b, off, hA, hb, hc⟩ := h h0
  exact ⟨b, off, hA, Nat.lt_of_lt_of_le hb k.size, fun k' s hs j u hu => k.cell_some (fun h => h) (hc k' s hs j u hu)⟩

def and7 (x : Int) : Int := bits BinOp.and IntKind.i64 x 7
theorem and7_bound (x : Int) : 0 ≤ and7 x ∧ and7 x ≤ 7 := by
  have h : (BitVec.ofInt 64 x &&& BitVec.ofInt 64 7).toNat ≤ 7 := by
    rw [BitVec.toNat_and]
    exact Nat.and_le_right
  have e : and7 x = IntKind.i64.wrap ((BitVec.ofInt 64 x &&& BitVec.ofInt 64 7).toNat : Int) := rfl
  rw [e, IntKind.wrap_i64]
  omega
def stepA (s : StepD) : Array Value := #[.int .i64 s.who, .int .i64 s.k, .int .i64 s.i, .int .u64 s.o.1, .int .u64 s.o.2, .int .u64 s.n.1, .int .u64 s.n.2]
def cs8 : List (Int × Int) := List.replicate 8 (0, 0)
theorem cs8_len : cs8.length = 8 := rfl
theorem seven {W : World} {B : Nat} {s : StepD} (h : Blk W B 39 (stepA s)) : W.cell? ⟨B, 0, none⟩ = some (.int .i64 s.who) ∧ W.cell? ⟨B, 1, none⟩ = some (.int .i64 s.k) ∧ W.cell? ⟨B, 2, none⟩ = some (.int .i64 s.i) ∧
    W.cell? ⟨B, 3, none⟩ = some (.int .u64 s.o.1) ∧ W.cell? ⟨B, 4, none⟩ = some (.int .u64 s.o.2) ∧ W.cell? ⟨B, 5, none⟩ = some (.int .u64 s.n.1) ∧ W.cell? ⟨B, 6, none⟩ = some (.int .u64 s.n.2) :=
  ⟨h.cell 0, h.cell 1, h.cell 2, h.cell 3, h.cell 4, h.cell 5, h.cell 6⟩
theorem three {W : World} {B : Nat} {p : Int × Int} {ok : Bool} (h : Blk W B 41 #[.int .u64 p.1, .int .u64 p.2, .bool ok]) : W.cell? ⟨B, 0, none⟩ = some (.int .u64 p.1) ∧ W.cell? ⟨B, 1, none⟩ = some (.int .u64 p.2) ∧ W.cell? ⟨B, 2, none⟩ = some (.bool ok) :=
  ⟨h.cell 0, h.cell 1, h.cell 2⟩
theorem tell_E (cs : List (Int × Int)) (E F : List EvD) (a : StepD) : (a.res cs E).p = (a.res cs F).p ∧ (a.res cs E).ok = (a.res cs F).ok ∧ (a.res cs E).err = (a.res cs F).err := by
  simp only [StepD.res]
  unfold doStep
  split <;> exact ⟨rfl, rfl, rfl⟩
theorem apart_four (cs : List (Int × Int)) (E : List EvD) (a b : StepD) (hne : a.i ≠ b.i) (ha : 0 ≤ a.i) (hb : 0 ≤ b.i) : ∃ c1 E1 pa oka ea c2 E2 pb okb eb c3 E3 E4,
    a.res cs E = ⟨c1, E1, pa, oka, ea⟩ ∧ b.res c1 E1 = ⟨c2, E2, pb, okb, eb⟩ ∧ b.res cs E = ⟨c3, E3, pb, okb, eb⟩ ∧ a.res c3 E3 = ⟨c2, E4, pa, oka, ea⟩ ∧ E4.length = E2.length ∧ c2.length = cs.length ∧
      E1.length ≤ E.length + 1 ∧ E3.length ≤ E.length + 1 ∧ E2.length ≤ E.length + 2 := by
  have tA := apart_tell cs (b.res cs E).E E a b hne hb ha
  have tA' := tell_E (b.res cs E).cs (b.res cs E).E E a
  have tA'' := apart_tell cs (b.res cs E).E E a b hne hb ha
  have uA := apart_tell cs E E a b hne hb ha
  have tB := apart_tell cs E E b a (fun e => hne e.symm) ha hb
  have tB' := tell_E (a.res cs E).cs (a.res cs E).E E b
  have cc := apart_cells cs E (a.res cs E).E E (b.res cs E).E a b hne hb ha
  have tt := apart_total cs E a b
  have l1 := doStep_len cs E a.who a.k a.i a.o a.n
  have l2 := doStep_len (a.res cs E).cs (a.res cs E).E b.who b.k b.i b.o b.n
  have l3 := doStep_len cs E b.who b.k b.i b.o b.n
  refine ⟨(a.res cs E).cs, (a.res cs E).E, (a.res cs E).p, (a.res cs E).ok, (a.res cs E).err, (b.res (a.res cs E).cs (a.res cs E).E).cs, (b.res (a.res cs E).cs (a.res cs E).E).E, (b.res (a.res cs E).cs (a.res cs E).E).p,
    (b.res (a.res cs E).cs (a.res cs E).E).ok, (b.res (a.res cs E).cs (a.res cs E).E).err, (b.res cs E).cs, (b.res cs E).E, (a.res (b.res cs E).cs (b.res cs E).E).E, rfl, rfl, ?_, ?_, tt.symm, l2.1.trans l1.1, l1.2, l3.2, Nat.le_trans l2.2 (by have := l1.2; simp only [StepD.res]; omega)⟩
  · rw [tB'.1.trans tB.1, tB'.2.1.trans tB.2.1, tB'.2.2.trans tB.2.2]
  · rw [← (tA'.1.trans uA.1), ← (tA'.2.1.trans uA.2.1), ← (tA'.2.2.trans uA.2.2), cc]
def atI (s : StepD) (i : Int) : StepD := { s with i := i }

/-- What holds at the head of the loop over a law's steps. -/
def StepsRel (w1 : World) (b g cap : Nat) (cs0 : List (Int × Int)) (l : List StepD) (i : Value) (wr : World) : Prop :=
  ∃ (k : Nat) (ev : Value), k ≤ l.length ∧ i = .int .i64 k ∧ Inv w1 wr b g cap ev (runSteps (l.take k) cs0 []).1 (runSteps (l.take k) cs0 []).2

/-- What holds at the head of the loop over cells. -/
def CellsRel (w0 W9 : World) (m g cap : Nat) (ev : Value) (m' g' cap' : Nat) (ev' : Value) (cs : List (Int × Int)) (E E' : List EvD) (i : Value) (wr : World) : Prop :=
  ∃ k : Nat, k ≤ 8 ∧ i = .int .i64 k ∧ Inv w0 wr m g cap ev cs E ∧ Inv w0 wr m' g' cap' ev' cs E' ∧ Kept (fun _ => False) W9 wr

set_option maxRecDepth 100000 in
set_option maxHeartbeats 4000000 in
theorem apart_walk (a b : StepD) (A : Option Addr) (n c : Nat) (l : List StepD) (w : World) (hn : l.length = n) (hmax : n ≤ maxLen) (hl : StepsAt w A l) :
    Calls Try.prog 8 #[stepV a, stepV b, .slice A n c] w fun e w' => e = .returned (.bool true) ∧ Below w.heap.size w w' := by
  unfold maxLen at hmax
  unfold stepV
  by_cases h40 : 40 < n
  · go_enter Try.func8, Try.ntmps8
    go_wp2_with fail
    refine (alive_calls _).mono ?_
    rintro e w1 ⟨rfl, K1⟩
    have L1 := (((Kept.refl (fun _ => False) w).alloc _).alloc _).trans K1
    go_wp2_with fail
    go_ret
    exact ⟨rfl, L1.toBelow (Nat.le_refl _) (fun _ _ h => h)⟩
  have h40' : n ≤ 40 := by omega
  clear h40
  go_enter Try.func8, Try.ntmps8
  go_wp2_with fail
  refine (alive_calls _).mono ?_
  rintro e w1 ⟨rfl, K1⟩
  have Ba : Blk w1 w.heap.size 39 #[.int .i64 a.who, .int .i64 a.k, .int .i64 a.i, .int .u64 a.o.1, .int .u64 a.o.2, .int .u64 a.n.1, .int .u64 a.n.2] := K1.blk ((Blk.new _ _ _).alloc _) (fun h => h)
  have Bb : Blk w1 (w.heap.size + 1) 39 #[.int .i64 b.who, .int .i64 b.k, .int .i64 b.i, .int .u64 b.o.1, .int .u64 b.o.2, .int .u64 b.n.1, .int .u64 b.n.2] := K1.blk (Blk.new' _ _ _ _ (by simp)) (fun h => h)
  have L1 := (((Kept.refl (fun _ => False) w).alloc (.cells #[.int .i64 a.who, .int .i64 a.k, .int .i64 a.i, .int .u64 a.o.1, .int .u64 a.o.2, .int .u64 a.n.1, .int .u64 a.n.2] 39)).alloc (.cells #[.int .i64 b.who, .int .i64 b.k, .int .i64 b.i, .int .u64 b.o.1, .int .u64 b.o.2, .int .u64 b.n.1, .int .u64 b.n.2] 39)).trans K1
  clear K1
  have xa2 : w1.cell? ⟨w.heap.size, 2, none⟩ = some (.int .i64 a.i) := Ba.cell 2
  have xb2 : w1.cell? ⟨w.heap.size + 1, 2, none⟩ = some (.int .i64 b.i) := Bb.cell 2
  have fa2 := Ba.frozen 2
  have fb2 := Bb.frozen 2
  have HBa := Lib.hid Ba
  have HBb := Lib.hid Bb
  have HL1 := Lib.hid L1
  have HL := Lib.hid hl
  clear Ba Bb L1 hl
  go_upto_region 5 with fail
  go_cut [] (fun wx => Blk wx w.heap.size 39 (stepA (atI a (and7 a.i))) ∧ Blk wx (w.heap.size + 1) 39 (stepA (atI b (and7 b.i))) ∧ Kept (fun _ => False) w wx)
  case first =>
    go_region
    go_wp2_with fail
    go_meet
    exact ⟨by repeat' (first | exact HBa.out.set_ 2 _ | apply Blk.drew | exact Blk.far (HBa.out.set_ 2 _) (by simp) _), by repeat' (first | apply Blk.drew | exact Blk.set_ (HBb.out.far (by simp) _) 2 _), by repeat' (first | exact HL1.out | apply Kept.drew | refine Kept.setCell ?_ (.inr (by simp)) _)⟩
  case rest =>
    obtain ⟨Ba, Bb, L2⟩ := hcut
    have b1 := and7_bound a.i
    have b2 := and7_bound b.i
    generalize and7 a.i = ai at *
    generalize and7 b.i = bi at *
    have za : wc.cell? ⟨w.heap.size, 2, none⟩ = some (.int .i64 ai) := Ba.cell 2
    have zb : wc.cell? ⟨w.heap.size + 1, 2, none⟩ = some (.int .i64 bi) := Bb.cell 2
    have HBa' := Lib.hid Ba
    have HBb' := Lib.hid Bb
    have HL2 := Lib.hid L2
    clear Ba Bb L2 xa2 xb2 fa2 fb2 HBa HBb HL1
    by_cases hq : ai = bi
    · have hqb : (ai == bi) = true := by simpa using hq
      have HH := Lib.hid hq
      clear hq
      go_wp2_with fail
      go_ret
      exact ⟨rfl, HL2.out.toBelow (Nat.le_refl _) (fun _ _ h => h)⟩
    · have hqb : (ai == bi) = false := by simpa using hq
      go_wp2_with fail
      refine (new_inv 8 (by omega) _).mono ?_
      rintro e w2 ⟨m, g, rfl, N2⟩
      have HN2 := Lib.hid N2
      clear N2 za zb
      go_wp2_with fail
      go_loopw [55] (fun i wr => StepsRel wc m g 8 cs8 l i wr) (fun i _ => n - (intOf i).toNat)
      case atStart => exact ⟨0, .slice none 0 0, Nat.zero_le _, rfl, HN2.out⟩
      case round =>
        obtain ⟨k, ev, hk, rfl, N3⟩ := hrel
        rename_i wr
        by_cases hlt : k < n
        · have hlt' : k < l.length := by omega
          obtain ⟨sb, so, hA, hsb, c0, c1, c2, c3, c4, c5, c6⟩ := step_cells ((HL.out.kept HL2.out).kept N3.kept) hlt'
          subst hA
          have hEl := (runSteps_len (l.take k) cs8 []).2
          rw [List.length_take, Nat.min_eq_left (by omega)] at hEl
          simp only [List.length_nil] at hEl
          have HN3 := Lib.hid N3
          clear N3
          go_wp2_with fail
          refine (do_inv (HN3.out.alloc _) l[k].who l[k].k l[k].i l[k].o l[k].n (by omega) _ rfl).mono ?_
          rintro e w4 ⟨rfl, ev4, N4, -⟩
          go_wp2_with fail
          exact ⟨⟨k + 1, ev4, by omega, rfl, by rw [runSteps_take l k hlt']; exact N4⟩, by simp [intOf]; omega⟩
        · have hkn : k = n := by omega
          subst hkn
          rw [List.take_of_length_le (by omega)] at N3
          have hcl := (runSteps_len l cs8 []).1
          have hEl := (runSteps_len l cs8 []).2
          rw [cs8_len] at hcl
          simp only [List.length_nil, Nat.zero_add] at hEl
          generalize (runSteps l cs8 []).1 = cs at *
          generalize (runSteps l cs8 []).2 = E at *
          have HN3 := Lib.hid N3
          have HCL := Lib.hid hcl
          clear N3 hcl
          go_wp2_with fail
          refine (clone_inv HN3.out (by have := HCL.out; omega) (by omega)).mono ?_
          rintro e w5 ⟨m', g', cap', ev', rfl, M5, N5, K5⟩
          have D5 := HN3.out.disj N5
          have N5' := N5.base HN3.out.kept
          have QA := M5.old HBa'.out
          have QB := M5.old HBb'.out
          have la := QA.lt
          have lb := QB.lt
          obtain ⟨p0, p1, p2, p3, p4, p5, p6⟩ := seven QA
          have HQA := Lib.hid QA
          have HQB := Lib.hid QB
          clear QA QB K5 N5
          obtain ⟨c1, E1, pa, oka, ea, c2, E2, pb, okb, eb, c3, E3, E4, h1, h2, h3, h4, hE4, hc2, hE1, hE3, hE2⟩ := apart_four cs E (atI a ai) (atI b bi) hq b1.1 b2.1
          have H4 := Lib.hid hE4
          have HC2 := Lib.hid (hc2.trans HCL.out)
          have e1 : E1.length ≤ 100 := by omega
          have e2 : E3.length ≤ 100 := by omega
          have HR1 := Lib.hid h1
          have HR2 := Lib.hid h2
          have HR3 := Lib.hid h3
          have HR4 := Lib.hid h4
          have HQ := Lib.hid hq
          clear h1 h2 h3 h4 hE4 hc2 hq
          go_wp2_with fail
          refine (do_two M5 N5' D5 (atI a ai).who (atI a ai).k (atI a ai).i (atI a ai).o (atI a ai).n (by omega) _ HR1.out).mono ?_
          rintro e w6 ⟨rfl, ev6, M6, -, N6, D6⟩
          clear p0 p1 p2 p3 p4 p5 p6 la lb M5 N5' D5
          have QB := M6.old HBb'.out
          have lb := QB.lt
          obtain ⟨p0, p1, p2, p3, p4, p5, p6⟩ := seven QB
          simp only [outV] at *
          go_wp2_with fail
          have X6 := Blk.new w6 41 #[.int .u64 pa.1, .int .u64 pa.2, .bool oka]
          refine (do_two (M6.alloc _) (N6.alloc _) D6 (atI b bi).who (atI b bi).k (atI b bi).i (atI b bi).o (atI b bi).n (by omega) _ HR2.out).mono ?_
          rintro e w7 ⟨rfl, ev7, M7, K7, N7, D7⟩
          have X6a := (M6.alloc _).out K7 X6
          clear p0 p1 p2 p3 p4 p5 p6 lb M6 N6 D6 K7 X6 QB
          have QB := M7.old HBb'.out
          have lb := QB.lt
          obtain ⟨p0, p1, p2, p3, p4, p5, p6⟩ := seven QB
          simp only [outV] at *
          go_wp2_with fail
          have X7 := Blk.new w7 41 #[.int .u64 pb.1, .int .u64 pb.2, .bool okb]
          refine (do_two (N7.alloc _) (M7.alloc _) D7.symm (atI b bi).who (atI b bi).k (atI b bi).i (atI b bi).o (atI b bi).n (by omega) _ HR3.out).mono ?_
          rintro e w8 ⟨rfl, ev8, N8, K8, M8, D8⟩
          have X6b := (N7.alloc _).out K8 (X6a.alloc _)
          have X7b := (N7.alloc _).out K8 X7
          clear p0 p1 p2 p3 p4 p5 p6 lb M7 N7 D7 K8 X6a X7 QB
          have QA := M8.old HBa'.out
          have la := QA.lt
          obtain ⟨p0, p1, p2, p3, p4, p5, p6⟩ := seven QA
          simp only [outV] at *
          go_wp2_with fail
          have X8 := Blk.new w8 41 #[.int .u64 pb.1, .int .u64 pb.2, .bool okb]
          refine (do_two (N8.alloc _) (M8.alloc _) D8 (atI a ai).who (atI a ai).k (atI a ai).i (atI a ai).o (atI a ai).n (by omega) _ HR4.out).mono ?_
          rintro e w9 ⟨rfl, ev9, N9, K9, M9, D9⟩
          have X6c := (N8.alloc _).out K9 (X6b.alloc _)
          have X7c := (N8.alloc _).out K9 (X7b.alloc _)
          have X8c := (N8.alloc _).out K9 X8
          clear p0 p1 p2 p3 p4 p5 p6 la M8 N8 D8 K9 X6b X7b X8 QA
          simp only [outV] at *
          go_wp2_with fail
          have X9 := Blk.new w9 41 #[.int .u64 pa.1, .int .u64 pa.2, .bool oka]
          have M9a := M9.alloc (.cells #[.int .u64 pa.1, .int .u64 pa.2, .bool oka] 41)
          have N9a := N9.alloc (.cells #[.int .u64 pa.1, .int .u64 pa.2, .bool oka] 41)
          have X6d := X6c.alloc (.cells #[.int .u64 pa.1, .int .u64 pa.2, .bool oka] 41)
          have X7d := X7c.alloc (.cells #[.int .u64 pa.1, .int .u64 pa.2, .bool oka] 41)
          have X8d := X8c.alloc (.cells #[.int .u64 pa.1, .int .u64 pa.2, .bool oka] 41)
          obtain ⟨W9, hW9⟩ : ∃ W, W = w9.alloc (.cells #[.int .u64 pa.1, .int .u64 pa.2, .bool oka] 41) := ⟨_, rfl⟩
          rw [← hW9] at M9a N9a X6d X7d X8d X9 ⊢
          have HM9 := Lib.hid M9a
          have HN9 := Lib.hid N9a
          have HX6 := Lib.hid X6d
          have HX7 := Lib.hid X7d
          have HX8 := Lib.hid X8d
          have HX9 := Lib.hid X9
          clear M9 N9 D9 X6c X7c X8c X9 M9a N9a X6d X7d X8d hW9
          have hqe := run_cell_eql
          have hqn := run_cell_neq
          go_loopw [104] (fun i wr => CellsRel wc W9 m g 8 ev7 m' g' cap' ev9 c2 E2 E4 i wr) (fun i _ => 8 - (intOf i).toNat)
          case atStart => exact ⟨0, by omega, rfl, HM9.out, HN9.out, Kept.refl _ _⟩
          case round =>
            obtain ⟨k2, hk2, rfl, M10, N10, K10⟩ := hrel
            rename_i wr2
            by_cases hlt2 : k2 < 8
            · have hc2' := HC2.out
              have hp : c2[k2]? = some (c2.getD k2 (0, 0)) := by rw [List.getD_eq_getElem?_getD, List.getElem?_eq_getElem (by omega)]; rfl
              have hpp := cellEq_self (c2.getD k2 (0, 0))
              have HP := Lib.hid hp
              clear hp hc2'
              generalize c2.getD k2 (0, 0) = pk at *
              have HM10 := Lib.hid M10
              have HN10 := Lib.hid N10
              have HK10 := Lib.hid K10
              clear M10 N10 K10
              go_wp2_with fail
              refine (peek_inv HM10.out k2 pk HP.out).mono ?_
              rintro e w10 ⟨rfl, M11, K11⟩
              simp only [cellV] at *
              have HM11 := Lib.hid M11
              have HK11 := Lib.hid K11
              clear M11 K11
              go_wp2_with fail
              have Y1 := Blk.new w10 35 #[.int .u64 pk.1, .int .u64 pk.2]
              refine (peek_inv ((HN10.out.more HK11.out).alloc _) k2 pk HP.out).mono ?_
              rintro e w11 ⟨rfl, N12, K12⟩
              have Y2 := K12.blk Y1 (fun h => h)
              have y0 : w11.cell? ⟨w10.heap.size, 0, none⟩ = some (.int .u64 pk.1) := Y2.cell 0
              have y1 : w11.cell? ⟨w10.heap.size, 1, none⟩ = some (.int .u64 pk.2) := Y2.cell 1
              have ly := Y2.lt
              simp only [cellV] at *
              have HN12 := Lib.hid N12
              have HK12 := Lib.hid K12
              clear N12 K12 Y1 Y2
              go_wp2_with fail
              exact ⟨⟨k2 + 1, by omega, rfl, ((HM11.out.alloc _).more HK12.out).alloc _, HN12.out.alloc _, (((HK10.out.trans HK11.out).alloc _).trans HK12.out).alloc _⟩, by simp [intOf]; omega⟩
            · have Z6 := K10.blk HX6.out (fun h => h)
              have Z7 := K10.blk HX7.out (fun h => h)
              have Z8 := K10.blk HX8.out (fun h => h)
              have Z9 := K10.blk HX9.out (fun h => h)
              obtain ⟨a0, a1, a2⟩ := three Z6
              obtain ⟨a3, a4, a5⟩ := three Z7
              obtain ⟨a6, a7, a8⟩ := three Z8
              obtain ⟨a9, a10, a11⟩ := three Z9
              obtain ⟨A4, c4, he4⟩ := own_form M10.mm.evs
              obtain ⟨A5, c5, he5⟩ := own_form N10.mm.evs
              have y9 := M10.mm.blk.m9
              have y9' := N10.mm.blk.m9
              rw [he4] at y9
              rw [he5] at y9'
              have hEE := H4.out
              have HM10 := Lib.hid M10
              clear M10 N10 K10 Z6 Z7 Z8 Z9 he4 he5
              generalize E4.length = n4 at *
              subst hEE
              go_wp2_with (first
                | (go_at_call_of 19 (Value.pointer (some ⟨m, 0, none⟩)); refine (total_calls _ m _ _ _ y9).mono ?_; rintro e w' ⟨rfl, rfl⟩)
                | (go_at_call_of 19 (Value.pointer (some ⟨m', 0, none⟩)); refine (total_calls _ m' _ _ _ y9').mono ?_; rintro e w' ⟨rfl, rfl⟩))
              go_ret
              exact ⟨rfl, (HL2.out.trans HM10.out.kept).toBelow (Nat.le_refl _) (fun _ _ h => h)⟩

end Go.Proofs.Ytkinnhdagdkhcaa
