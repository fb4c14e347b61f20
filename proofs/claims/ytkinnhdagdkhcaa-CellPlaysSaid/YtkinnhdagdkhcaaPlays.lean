/- CellPlays: the walk of the law. -/
import Derived.Test.YtkinnhdagdkhcaaPlaysS
import Derived.Test.YtkinnhdagdkhcaaCellT
import Derived.Lib.MinMax
namespace Go.Proofs.Ytkinnhdagdkhcaa
open Go.RowKit

/-- What holds at the head of the loop over steps. -/
def PlaysRel (w1 : World) (b g sz X : Nat) (l : List StepD) (i : Value) (wr : World) : Prop :=
  ∃ (k : Nat) (ev : Value) (CA EA : Option Addr) (cc ec : Nat), k ≤ l.length ∧ i = .int .i64 k ∧
    Inv w1 wr b g sz ev (runSteps (l.take k) (List.replicate sz (0, 0)) []).1 (runSteps (l.take k) (List.replicate sz (0, 0)) []).2 ∧ XRep wr CA cc EA ec (runSteps (l.take k) (List.replicate sz (0, 0)) []).1 (runSteps (l.take k) (List.replicate sz (0, 0)) []).2 ∧
    Blk wr X 31 #[.slice CA sz cc, .slice EA (runSteps (l.take k) (List.replicate sz (0, 0)) []).2.length ec] ∧
    (∀ y, CA = some y → ¬ Foot b g ev y.block) ∧ (∀ y, EA = some y → ¬ Foot b g ev y.block)
theorem Inv.set {w0 w w' : World} {b g cap : Nat} {ev : Value} {cs : List (Int × Int)} {E : List EvD} (h : Inv w0 w b g cap ev cs E) {X : Nat} (hX : w0.heap.size ≤ X) (hk : Kept (fun k => k = X) w w') (hn : ¬ Foot b g ev X) : Inv w0 w' b g cap ev cs E :=
  ⟨IsMem.keep h.mm hk (fun e => hn (.inl e.symm)) (fun e => hn (.inr (.inl e.symm))) (fun x hx e => hn (.inr (.inr (e ▸ hx)))),
    ⟨hk.os.trans h.kept.os, hk.tape.trans h.kept.tape, hk.output.trans h.kept.output, Nat.le_trans h.kept.size hk.size, fun k hk' _ => (hk.block k (Nat.lt_of_lt_of_le hk' h.kept.size) (fun e => by omega)).trans (h.kept.block k hk' (fun h => h))⟩, h.hb, h.hg, h.he⟩
theorem XRep.foot {w w' : World} {CA : Option Addr} {cc : Nat} {EA : Option Addr} {ec : Nat} {cs : List (Int × Int)} {E : List EvD} (h : XRep w CA cc EA ec cs E) {S : Nat → Prop} (k : Kept S w w') (hc : ∀ y, CA = some y → ¬ S y.block) (he : ∀ y, EA = some y → ¬ S y.block) : XRep w' CA cc EA ec cs E := by
  refine ⟨k.own h.cells ?_, k.own h.trace ?_⟩
  · intro x hx
    cases CA with
    | none => simp [Value.ownBlock] at hx
    | some y => simp only [Value.ownBlock, Option.some.injEq] at hx; exact hx ▸ hc y rfl
  · intro x hx
    cases EA with
    | none => simp [Value.ownBlock] at hx
    | some y => simp only [Value.ownBlock, Option.some.injEq] at hx; exact hx ▸ he y rfl

/-- A step of the memory: what is not its own stays so. -/
theorem do_next {w0 w : World} {b g cap : Nat} {ev : Value} {cs : List (Int × Int)} {E : List EvD} (h : Inv w0 w b g cap ev cs E) (who k i : Int) (o n : Int × Int) (hm : E.length ≤ 1000) (r : Res) (hr : doStep cs E who k i o n = r) :
    Calls Try.prog 12 #[.pointer (some ⟨b, 0, none⟩), .int .i64 who, opV k i o n] w fun e w' => e = .returned (.tuple #[outV r.p r.ok, .int .i64 r.err]) ∧
      ∃ ev1, Inv w0 w' b g cap ev1 r.cs r.E ∧ Kept (Foot b g ev) w w' ∧ (∀ x, x < w.heap.size → ¬ Foot b g ev x → ¬ Foot b g ev1 x) :=
  (do_calls w b g cap ev cs E h.mm who k i o n hm r hr).mono fun _ w' ⟨he, ev1, hM, hk, hev⟩ => by
    refine ⟨he, ev1, ⟨hM, h.kept.foot hk h.hb h.hg h.he, h.hb, h.hg, fresh_next h.kept h.he hev⟩, hk, ?_⟩
    rintro x hx hn (hf | hf | hf)
    · exact hn (.inl hf)
    · exact hn (.inr (.inl hf))
    · rcases hev with hev | ⟨z, hz, hzs⟩
      · exact hn (.inr (.inr (hev ▸ hf)))
      · rw [hz] at hf
        injection hf with hf
        omega

/-- The document's memory, as it lies behind a pointer. -/
def XS (X : Nat) (CA : Option Addr) (sz cc : Nat) (EA : Option Addr) (k ec : Nat) (W : World) : Prop := W.cell? ⟨X, 0, none⟩ = some (.slice CA sz cc) ∧ W.cell? ⟨X, 1, none⟩ = some (.slice EA k ec)
theorem XS.kept {X : Nat} {CA : Option Addr} {sz cc : Nat} {EA : Option Addr} {k ec : Nat} {W W' : World} (h : XS X CA sz cc EA k ec W) (hk : Kept (fun _ => False) W W') : XS X CA sz cc EA k ec W' :=
  ⟨hk.cell_some (fun h => h) h.1, hk.cell_some (fun h => h) h.2⟩
theorem seven_bound (x : Int) : ∃ q : Nat, q ≤ 7 ∧ bits BinOp.and IntKind.i64 x 7 = (q : Int) := by
  have h : (BitVec.ofInt 64 x &&& BitVec.ofInt 64 7).toNat ≤ 7 := by
    rw [BitVec.toNat_and]
    exact Nat.and_le_right
  have e : bits BinOp.and IntKind.i64 x 7 = IntKind.i64.wrap ((BitVec.ofInt 64 x &&& BitVec.ofInt 64 7).toNat : Int) := rfl
  refine ⟨(BitVec.ofInt 64 x &&& BitVec.ofInt 64 7).toNat, h, ?_⟩
  rw [e, IntKind.wrap_i64]
  omega

set_option maxRecDepth 100000 in
set_option maxHeartbeats 4000000 in
theorem plays_walk (size : Int) (A : Option Addr) (n c : Nat) (l : List StepD) (most : Int) (w : World) (hsize : Int64 size) (hn : l.length = n) (hmax : n ≤ maxLen) (hl : StepsAt w A l) (_hmost : Int64 most) :
    Calls Try.prog 3 #[.int .i64 size, .slice A n c, .int .i64 most] w fun e w' => e = .returned (.bool true) ∧ Below w.heap.size w w' := by
  unfold maxLen at hmax
  by_cases h60 : 60 < n
  · go_enter Try.func3, Try.ntmps3
    go_wp2_with fail
    refine (alive_calls _).mono ?_
    rintro e w1 ⟨rfl, K1⟩
    go_wp2_with fail
    go_ret
    exact ⟨rfl, K1.toBelow (Nat.le_refl _) (fun _ _ h => h)⟩
  have h60' : n ≤ 60 := by omega
  by_cases hbig : 40 < size ∧ size ≤ 65536
  · obtain ⟨hs1, hs2⟩ := hbig
    go_enter Try.func3, Try.ntmps3
    go_wp2_with fail
    refine (alive_calls _).mono ?_
    rintro e w1 ⟨rfl, K1⟩
    go_wp2_with fail
    go_ret
    exact ⟨rfl, K1.toBelow (Nat.le_refl _) (fun _ _ h => h)⟩
  by_cases hout : size < 0 ∨ 65536 < size
  · go_enter Try.func3, Try.ntmps3
    go_wp2_with fail
    refine (alive_calls _).mono ?_
    rintro e w1 ⟨rfl, K1⟩
    rcases hout with ho | ho
    · go_wp2_with (go_at_call 10; refine (new_no size (.inl ho) _).mono ?_; rintro e w' ⟨rfl, rfl⟩)
      go_ret
      exact ⟨rfl, K1.toBelow (Nat.le_refl _) (fun _ _ h => h)⟩
    · go_wp2_with (go_at_call 10; refine (new_no size (.inr ho) _).mono ?_; rintro e w' ⟨rfl, rfl⟩)
      go_ret
      exact ⟨rfl, K1.toBelow (Nat.le_refl _) (fun _ _ h => h)⟩
  obtain ⟨sz, rfl⟩ : ∃ sz : Nat, size = sz := ⟨size.toNat, by omega⟩
  have hz40 : sz ≤ 40 := by omega
  clear h60 hbig hout hsize
  have HN := Lib.hid hn
  have HL := Lib.hid hl
  clear hn hl
  go_enter Try.func3, Try.ntmps3
  go_wp2_with fail
  refine (alive_calls _).mono ?_
  rintro e w1 ⟨rfl, K1⟩
  have HK1 := Lib.hid K1
  clear K1
  go_wp2_with fail
  refine (new_inv sz (by omega) _).mono ?_
  rintro e w2 ⟨m, g, rfl, M2⟩
  have HM2 := Lib.hid M2
  clear M2
  go_wp2_with fail
  refine (refNew_calls sz (by omega) _).mono ?_
  rintro e w3 ⟨CA0, cc0, rfl, X3, K3, hf3⟩
  have HX3 := Lib.hid X3
  have HK3 := Lib.hid K3
  have HF3 := Lib.hid hf3
  clear X3 K3 hf3
  unfold xV
  go_wp2_with fail
  obtain ⟨X, hXd⟩ : ∃ X, X = w3.heap.size := ⟨_, rfl⟩
  have hX1 : w1.heap.size ≤ X := by have := HM2.out.kept.size; have := HK3.out.size; omega
  have hXg : X ≠ g := by
    have := HM2.out.mm.foot_lt (x := g) (.inr (.inl rfl))
    have := HK3.out.size
    omega
  have hB3 := Blk.new w3 31 #[.slice CA0 sz cc0, .slice none 0 0]
  have M3 := (HM2.out.more HK3.out).alloc (.cells #[.slice CA0 sz cc0, .slice none 0 0] 31)
  have X3 := HX3.out.kept ((Kept.refl _ w3).alloc (.cells #[.slice CA0 sz cc0, .slice none 0 0] 31))
  have hd3 : ∀ y, CA0 = some y → ¬ Foot m g (.slice none 0 0) y.block := fun y hy hf => by
    have := HM2.out.mm.foot_lt hf
    have := HF3.out y hy
    omega
  rw [← hXd] at *
  have HB3 := Lib.hid hB3
  have HM3 := Lib.hid M3
  have HX3' := Lib.hid X3
  have HD3 := Lib.hid hd3
  have HXD := Lib.hid hXd
  clear hB3 M3 X3 hd3 hXd
  go_loopw [61] (fun i wr => PlaysRel w1 m g sz X l i wr) (fun i _ => n - (intOf i).toNat)
  case atStart => exact ⟨0, .slice none 0 0, CA0, none, cc0, 0, Nat.zero_le _, rfl, HM3.out, HX3'.out, HB3.out, HD3.out, fun y hy => by cases hy⟩
  case round =>
    obtain ⟨k, ev, CA, EA, cc, ec, hk, rfl, M4, X4, B4, D4, F4⟩ := hrel
    rename_i wr
    by_cases hlt : k < n
    · have hlt' : k < l.length := by have := HN.out; omega
      obtain ⟨sb, so, hA, hsb, c0, c1, c2, c3, c4, c5, c6⟩ := step_cells ((HL.out.kept HK1.out).kept M4.kept) hlt'
      subst hA
      have hE := runSteps_len (l.take k) (List.replicate sz (0, 0)) []
      rw [List.length_take, Nat.min_eq_left (by omega)] at hE
      simp only [List.length_nil, List.length_replicate] at hE
      have htk := runSteps_take l k hlt' (List.replicate sz (0, 0)) []
      generalize (runSteps (l.take k) (List.replicate sz (0, 0)) []).1 = cs at *
      generalize (runSteps (l.take k) (List.replicate sz (0, 0)) []).2 = E at *
      obtain ⟨r, hr⟩ : ∃ r, doStep cs E l[k].who l[k].k l[k].i l[k].o l[k].n = r := ⟨_, rfl⟩
      have hT : runSteps (l.take (k + 1)) (List.replicate sz (0, 0)) [] = (r.cs, r.E) := by rw [htk, ← hr]; rfl
      have hrl : r.cs.length = sz := by rw [← hr, (doStep_len cs E l[k].who l[k].k l[k].i l[k].o l[k].n).1]; exact hE.1
      have HTK := Lib.hid hT
      have HRL := Lib.hid hrl
      have HR := Lib.hid hr
      clear hT hrl hr
      have HEL := Lib.hid hE
      have HM4 := Lib.hid M4
      have HX4 := Lib.hid X4
      have HB4 := Lib.hid B4
      have HD4 := Lib.hid D4
      have HF4 := Lib.hid F4
      have HLT := Lib.hid hlt'
      have HKN := Lib.hid hlt
      clear M4 X4 B4 D4 F4 htk hE
      go_wp2_with fail
      refine (do_next (HM4.out.alloc _) l[k].who l[k].k l[k].i l[k].o l[k].n (by have := HEL.out; omega) r HR.out).mono ?_
      rintro e w4 ⟨rfl, ev4, M5, K5, N5⟩
      have S5 := new_stays HM4.out K5
      have B5 := (HM4.out.alloc _).stays K5 (HB4.out.alloc _) (by decide) hXg (by decide)
      have X5 := (HX4.out.kept ((Kept.refl _ wr).alloc _)).foot K5 HD4.out HF4.out
      have D5 : ∀ y, CA = some y → ¬ Foot m g ev4 y.block := fun y hy => N5 y.block (by have := (HX4.out.cells.lt y.block (by subst hy; rfl)).2; simp; omega) (HD4.out y hy)
      have F5 : ∀ y, EA = some y → ¬ Foot m g ev4 y.block := fun y hy => N5 y.block (by have := (HX4.out.trace.lt y.block (by subst hy; rfl)).2; simp; omega) (HF4.out y hy)
      have s0 : _ = some (Value.int .i64 l[k].who) := S5.cell 0
      have s1 : _ = some (Value.int .i64 l[k].k) := S5.cell 1
      have s2 : _ = some (Value.int .i64 l[k].i) := S5.cell 2
      have s3 : _ = some (Value.int .u64 l[k].o.1) := S5.cell 3
      have s4 : _ = some (Value.int .u64 l[k].o.2) := S5.cell 4
      have s5 : _ = some (Value.int .u64 l[k].n.1) := S5.cell 5
      have s6 : _ = some (Value.int .u64 l[k].n.2) := S5.cell 6
      have x0 : _ = some (Value.slice CA sz cc) := B5.cell 0
      have x1 : _ = some (Value.slice EA E.length ec) := B5.cell 1
      have lS := S5.lt
      have lX := B5.lt
      have hRD := refDo_calls (X5.kept ((Kept.refl _ w4).alloc (.cells #[.int .u64 r.p.1, .int .u64 r.p.2, .bool r.ok] 41))) l[k].who l[k].k l[k].i l[k].o l[k].n (by have := HEL.out; omega) (by have := HEL.out; omega) r HR.out
      rw [HEL.out.1] at hRD
      unfold xV at hRD
      have HM5 := Lib.hid M5
      have HB5 := Lib.hid B5
      have HD5 := Lib.hid D5
      have HF5 := Lib.hid F5
      have hon := run_out_neq
      clear M5 K5 N5 S5 B5 X5 D5 F5 c0 c1 c2 c3 c4 c5 c6
      simp only [outV]
      go_wp2_with fail
      refine hRD.mono ?_
      rintro e w5 ⟨CA2, cc2, EA2, ec2, rfl, X6, K6, hca, hea⟩
      have A6 := K6.blk (Blk.new w4 41 #[.int .u64 r.p.1, .int .u64 r.p.2, .bool r.ok]) (fun h => h)
      have B6 := K6.blk (HB5.out.alloc _) (fun h => h)
      have a0 : _ = some (Value.int .u64 r.p.1) := A6.cell 0
      have a1 : _ = some (Value.int .u64 r.p.2) := A6.cell 1
      have a2 : _ = some (Value.bool r.ok) := A6.cell 2
      have y0 : _ = some (Value.slice CA sz cc) := B6.cell 0
      have y1 : _ = some (Value.slice EA E.length ec) := B6.cell 1
      have z0 := B6.frozen 0
      have z1 := B6.frozen 1
      have lA := A6.lt
      have lB := B6.lt
      have M6 := (HM5.out.alloc (.cells #[.int .u64 r.p.1, .int .u64 r.p.2, .bool r.ok] 41)).more K6
      have D6 : ∀ y, CA2 = some y → ¬ Foot m g ev4 y.block := fun y hy => by
        rcases hca y hy with h | h
        · exact HD5.out y h
        · intro hf
          have := HM5.out.mm.foot_lt hf
          simp at h
          omega
      have F6 : ∀ y, EA2 = some y → ¬ Foot m g ev4 y.block := fun y hy => by
        rcases hea y hy with h | h
        · exact HF5.out y h
        · intro hf
          have := HM5.out.mm.foot_lt hf
          simp at h
          omega
      have hXA : X ≠ w4.heap.size := by omega
      have HX6 := Lib.hid X6
      have HB6 := Lib.hid B6
      have HM6 := Lib.hid M6
      have HD6 := Lib.hid D6
      have HF6 := Lib.hid F6
      clear X6 K6 hca hea A6 B6 M6 D6 F6 s0 s1 s2 s3 s4 s5 s6 x0 x1 hRD
      rw [HRL.out]
      simp only [outV]
      go_wp2_with fail
      have hK : Kept (fun k => k = X) w5 ((((w5.setCell ⟨X, 0, none⟩ (.slice CA2 sz cc2)).setCell ⟨X, 1, none⟩ (.slice EA2 r.E.length ec2)).alloc (.cells #[.slice CA2 sz cc2, .slice EA2 r.E.length ec2] 31)).alloc (.cells #[.int .u64 r.p.1, .int .u64 r.p.2, .bool r.ok] 41)) :=
        ((((Kept.refl (fun k => k = X) w5).setCell (p := ⟨X, 0, none⟩) (.inl rfl) _).setCell (p := ⟨X, 1, none⟩) (.inl rfl) _).alloc _).alloc _
      have hc : ∀ y, CA2 = some y → y.block ≠ X := fun y hy h => own_blk_ne HX6.out.cells HB6.out (by decide) (by subst hy h; rfl)
      have he : ∀ y, EA2 = some y → y.block ≠ X := fun y hy h => own_blk_ne HX6.out.trace HB6.out (by decide) (by subst hy h; rfl)
      have hfx : ¬ Foot m g ev4 X := fun hf => by
        rcases hf with h | h | h
        · exact HB6.out.ne_ HM6.out.mm.blk (by decide) h
        · exact hXg h
        · exact own_blk_ne HM6.out.mm.evs HB6.out (by decide) h.symm
      refine ⟨⟨k + 1, ev4, CA2, EA2, cc2, ec2, HLT.out, rfl, ?_, ?_, ?_, HD6.out, HF6.out⟩, by have := HKN.out; simp [intOf]; omega⟩
      · rw [HTK.out]; exact HM6.out.set hX1 hK hfx
      · rw [HTK.out]; exact HX6.out.foot hK hc he
      · rw [HTK.out]; exact (((HB6.out.set_ 0 _).set_ 1 _).alloc _).alloc _
    · have hkn : k = n := by have := HN.out; omega
      subst hkn
      rw [List.take_of_length_le (by have := HN.out; omega)] at M4 X4 B4
      have hE := runSteps_len l (List.replicate sz (0, 0)) []
      simp only [List.length_nil, List.length_replicate] at hE
      generalize (runSteps l (List.replicate sz (0, 0)) []).1 = cs at *
      generalize (runSteps l (List.replicate sz (0, 0)) []).2 = E at *
      have x0 : _ = some (Value.slice CA sz cc) := B4.cell 0
      have x1 : _ = some (Value.slice EA E.length ec) := B4.cell 1
      have m0 := M4.mm.blk.m0
      have HEL := Lib.hid hE
      have HM4 := Lib.hid M4
      have HX4 := Lib.hid X4
      have HB4 := Lib.hid B4
      clear M4 X4 B4 D4 F4 hE hlt
      have hcs := HEL.out.1
      have hE60 := HEL.out.2
      have hln := HN.out
      go_wp2_with fail
      refine (peek_no _ m sz _ _ _ m0 (.inr (by omega))).mono ?_
      rintro e w5 ⟨rfl, K5⟩
      have L5 : Kept (fun _ => False) wr w5 := (Kept.below K5).mono (fun k hk h => by omega)
      have m5 := (HM4.out.more L5).mm.blk.m0
      have HL5 := Lib.hid L5
      clear L5 K5 m0 x0 x1
      simp only [cellV] at *
      go_wp2_with fail
      refine (peek_no _ m (-1) _ _ _ (((HM4.out.more HL5.out).alloc _).mm.blk.m0) (.inl (by omega))).mono ?_
      rintro e w6 ⟨rfl, K6⟩
      have L6 : Kept (fun _ => False) wr w6 := (HL5.out.alloc _).trans ((Kept.below K6).mono (fun k hk h => by omega))
      simp only [cellV] at *
      have HL6 := Lib.hid L6
      clear K6 L6 m5
      go_wp2_with fail
      obtain ⟨q, hq7, hq⟩ := seven_bound most
      have L7 : Kept (fun _ => False) wr (w6.alloc (.cells #[.int .u64 0, .int .u64 0] 35)).drew := (HL6.out.alloc _).drew
      have B7 := L7.blk HB4.out (fun h => h)
      have M7 := HM4.out.more L7
      have x0 : (w6.alloc (.cells #[.int .u64 0, .int .u64 0] 35)).drew.cell? ⟨X, 0, none⟩ = some (Value.slice CA sz cc) := B7.cell 0
      have x1 : (w6.alloc (.cells #[.int .u64 0, .int .u64 0] 35)).drew.cell? ⟨X, 1, none⟩ = some (Value.slice EA E.length ec) := B7.cell 1
      have hSame := same_calls M7 (HX4.out.kept L7) (by omega) (by omega)
      rw [hcs] at hSame
      unfold xV at hSame
      have hq63 : bits BinOp.and IntKind.i64 most 7 ≤ 9223372036854775807 := by omega
      have hE2 : E.length ≤ 2000 := by omega
      have hm1 : (-1 : Int) < 0 ∨ 8 ≤ (-1 : Int) := by omega
      have hm8 : (8 : Int) < 0 ∨ 8 ≤ (8 : Int) := by omega
      have hE60' : E.length ≤ 60 := by omega
      have HX0 := Lib.hid (show XS X CA sz cc EA E.length ec (w6.alloc (.cells #[.int .u64 0, .int .u64 0] 35)).drew from ⟨x0, x1⟩)
      have HXK := Lib.hid (fun (W : World) (hk : Kept (fun _ => False) (w6.alloc (.cells #[.int .u64 0, .int .u64 0] 35)).drew W) => HX0.out.kept hk)
      have HM7 := Lib.hid M7
      have HS := Lib.hid hSame
      have HEV := Lib.hid (fun (W : World) (hk : Kept (fun _ => False) (w6.alloc (.cells #[.int .u64 0, .int .u64 0] 35)).drew W) => lawEvents W m ev _ E (bits BinOp.and IntKind.i64 most 7) (M7.more hk).mm.blk.m9 (M7.more hk).mm.evs hq63 hE2 rfl)
      have HN1 := Lib.hid (fun W => steps_no W m (-1) hm1)
      have HN8 := Lib.hid (fun W => steps_no W m 8 hm8)
      have HL7 := Lib.hid L7
      clear L7 B7 hcs hE60 hln M7 hSame hm1 hm8
      obtain ⟨r, hmz, hmn⟩ : ∃ r : Nat, min (bits BinOp.and IntKind.i64 most 7) (E.length : Int) = (r : Int) ∧ min (bits BinOp.and IntKind.i64 most 7).toNat E.length = r := ⟨min q E.length, by omega, by omega⟩
      have HMN := Lib.hid hmn
      clear hmn hq hq63
      go_region_held3 (fun W => W.cell? ⟨X, 0, none⟩ = some (.slice CA sz cc) ∧ W.cell? ⟨X, 1, none⟩ = some (.slice EA E.length ec))
        ((show XS X CA sz cc EA E.length ec _; first | with_reducible exact HX0.out | with_reducible exact HXK.out _ K8 | with_reducible exact HXK.out _ (K8.trans K9)))
        (first
          | (go_at_call 15; refine HS.out.mono ?_; rintro e w8 ⟨rfl, K8⟩)
          | (go_at_call 16; refine (HEV.out _ K8).mono ?_; rintro e w9 ⟨EA9, ec9, rfl, E9, hf9, K9⟩; rw [HMN.out]; clear E9 hf9)
          | (go_at_call_of 17 (Value.pointer (some ⟨m, 0, none⟩)); (first | ((with_reducible refine (HN1.out _).mono ?_); rintro e w' ⟨rfl, rfl⟩) | ((with_reducible refine (HN8.out _).mono ?_); rintro e w' ⟨rfl, rfl⟩))))
      all_goals
        go_wp2_with fail
        go_ret
        refine ⟨rfl, Kept.toBelow (S := fun _ => False) (HK1.out.trans (HM4.out.kept.trans (HL7.out.trans (K8.trans ?_)))) (Nat.le_refl _) (fun _ _ h => h)⟩
        first | exact K9 | exact K9.drew

end Go.Proofs.Ytkinnhdagdkhcaa
