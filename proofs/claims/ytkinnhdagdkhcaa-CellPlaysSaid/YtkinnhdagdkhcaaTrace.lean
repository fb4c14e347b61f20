/- CellTrace: the walk of the law. -/
import Derived.Test.YtkinnhdagdkhcaaCellT
namespace Go.Proofs.Ytkinnhdagdkhcaa
open Go.RowKit

theorem size_bound (x : Int) : ∃ sz : Nat, 1 ≤ sz ∧ sz ≤ 32 ∧ 1 + bits BinOp.and IntKind.i64 x 31 = (sz : Int) := by
  have h : (BitVec.ofInt 64 x &&& BitVec.ofInt 64 31).toNat ≤ 31 := by
    rw [BitVec.toNat_and]
    exact Nat.and_le_right
  have e : bits BinOp.and IntKind.i64 x 31 = IntKind.i64.wrap ((BitVec.ofInt 64 x &&& BitVec.ofInt 64 31).toNat : Int) := rfl
  refine ⟨1 + (BitVec.ofInt 64 x &&& BitVec.ofInt 64 31).toNat, by omega, by omega, ?_⟩
  rw [e, IntKind.wrap_i64]
  omega
theorem run_out_neq (W : World) (p : Int × Int) (ok : Bool) : (binOp .neq 41 (.agg #[.int .u64 p.1, .int .u64 p.2, .bool ok]) (.agg #[.int .u64 p.1, .int .u64 p.2, .bool ok])).run Try.prog W = .ok (.bool false) W := by
  simp [go_sem]

/-- What holds at the head of the loop over steps: the first memory goes on, the second one waits. -/
def TraceRel1 (w1 : World) (b g b' g' sz : Nat) (l : List StepD) (i : Value) (wr : World) : Prop :=
  ∃ (k : Nat) (ev : Value), k ≤ l.length ∧ i = .int .i64 k ∧ Inv w1 wr b g sz ev (runSteps (l.take k) (List.replicate sz (0, 0)) []).1 (runSteps (l.take k) (List.replicate sz (0, 0)) []).2 ∧
    Inv w1 wr b' g' sz (.slice none 0 0) (List.replicate sz (0, 0)) [] ∧ Disj b g ev b' g' (.slice none 0 0)
/-- What holds at the head of the loop over the steps that were done. -/
def TraceRel2 (w1 : World) (b g b' g' sz ec : Nat) (EA : Option Addr) (ev : Value) (cs0 : List (Int × Int)) (E : List EvD) (i n : Value) (wr : World) : Prop :=
  ∃ (k : Nat) (ev' : Value), k ≤ E.length ∧ i = .int .i64 k ∧ n = .int .i64 k ∧ Inv w1 wr b' g' sz ev' (after cs0 (E.take k)) (E.take k) ∧ Inv w1 wr b g sz ev (after cs0 E) E ∧ Disj b' g' ev' b g ev ∧
    wr.ownsRow 0 57 10 (.slice EA E.length ec) E.length (flatE E) ∧ (∀ x, EA = some x → ¬ Foot b' g' ev' x.block)
theorem new_stays {w0 wr w' : World} {b g cap : Nat} {ev : Value} {cs : List (Int × Int)} {E : List EvD} (M : Inv w0 wr b g cap ev cs E) {A : Array Value} {t : TypeId} (hk : Kept (Foot b g ev) (wr.alloc (.cells A t)) w') : Blk w' wr.heap.size t A := by
  refine hk.blk (Blk.new _ _ _) fun h => ?_
  have := M.mm.foot_lt h
  omega
/-- What holds at the head of the loop over cells. -/
def TraceRel4 (w1 : World) (b g b' g' sz : Nat) (ev ev' : Value) (cs : List (Int × Int)) (E : List EvD) (i : Value) (wr : World) : Prop :=
  ∃ k : Nat, k ≤ sz ∧ i = .int .i64 k ∧ Inv w1 wr b g sz ev cs E ∧ Inv w1 wr b' g' sz ev' cs E

set_option maxRecDepth 100000 in
set_option maxHeartbeats 4000000 in
theorem trace_walk (size : Int) (A : Option Addr) (n c : Nat) (l : List StepD) (w : World) (_hsize : Int64 size) (hn : l.length = n) (hmax : n ≤ maxLen) (hl : StepsAt w A l) :
    Calls Try.prog 6 #[.int .i64 size, .slice A n c] w fun e w' => e = .returned (.bool true) ∧ Below w.heap.size w w' := by
  unfold maxLen at hmax
  by_cases h60 : 60 < n
  · go_enter Try.func6, Try.ntmps6
    go_wp2_with fail
    refine (alive_calls _).mono ?_
    rintro e w1 ⟨rfl, K1⟩
    go_wp2_with fail
    go_ret
    exact ⟨rfl, K1.toBelow (Nat.le_refl _) (fun _ _ h => h)⟩
  have h60' : n ≤ 60 := by omega
  obtain ⟨sz, hz1, hz32, hz⟩ := size_bound size
  clear h60
  have HN := Lib.hid hn
  have HL := Lib.hid hl
  clear hn hl
  go_enter Try.func6, Try.ntmps6
  go_wp2_with fail
  refine (alive_calls _).mono ?_
  rintro e w1 ⟨rfl, K1⟩
  have HK1 := Lib.hid K1
  clear K1
  go_wp2_with fail
  refine (new_inv sz (by omega) _).mono ?_
  rintro e w2 ⟨m, g, rfl, M2⟩
  have HM2 := Lib.hid M2
  clear M2
  go_wp2_with fail
  refine (new_inv sz (by omega) _).mono ?_
  rintro e w3 ⟨m', g', rfl, N3⟩
  have HN3 := Lib.hid N3
  clear N3
  go_wp2_with fail
  go_loopw [43] (fun i wr => TraceRel1 w1 m g m' g' sz l i wr) (fun i _ => n - (intOf i).toNat)
  case atStart => exact ⟨0, .slice none 0 0, Nat.zero_le _, rfl, HM2.out.more HN3.out.kept, HN3.out.base HM2.out.kept, HM2.out.disj HN3.out⟩
  case round =>
    obtain ⟨k, ev, hk, rfl, M4, N4, D4⟩ := hrel
    rename_i wr
    by_cases hlt : k < n
    · have hlt' : k < l.length := by have := HN.out; omega
      obtain ⟨sb, so, hA, hsb, c0, c1, c2, c3, c4, c5, c6⟩ := step_cells ((HL.out.kept HK1.out).kept M4.kept) hlt'
      subst hA
      have hEl := (runSteps_len (l.take k) (List.replicate sz (0, 0)) []).2
      rw [List.length_take, Nat.min_eq_left (by omega)] at hEl
      simp only [List.length_nil] at hEl
      have HM4 := Lib.hid M4
      have HN4 := Lib.hid N4
      have HD4 := Lib.hid D4
      have HLT := Lib.hid hlt'
      have HKN := Lib.hid hlt
      clear M4 N4 D4
      go_wp2_with fail
      refine (do_two (HM4.out.alloc _) (HN4.out.alloc _) HD4.out l[k].who l[k].k l[k].i l[k].o l[k].n (by omega) _ rfl).mono ?_
      rintro e w4 ⟨rfl, ev4, M5, -, N5, D5⟩
      have HM5 := Lib.hid M5
      have HN5 := Lib.hid N5
      have HD5 := Lib.hid D5
      clear M5 N5 D5
      go_wp2_with fail
      exact ⟨⟨k + 1, ev4, HLT.out, rfl, by rw [runSteps_take l k HLT.out]; exact HM5.out, HN5.out, HD5.out⟩, by have := HKN.out; simp [intOf]; omega⟩
    · have hkn : k = n := by have := HN.out; omega
      subst hkn
      have hln := HN.out
      rw [List.take_of_length_le (by omega)] at M4
      have hEl := (runSteps_len l (List.replicate sz (0, 0)) []).2
      obtain ⟨hg, hc⟩ := runSteps_good l (List.replicate sz (0, 0)) [] trivial
      simp only [after] at hg hc
      rw [hc] at M4
      simp only [List.length_nil, Nat.zero_add] at hEl
      generalize (runSteps l (List.replicate sz (0, 0)) []).2 = E at *
      have hE60 : E.length ≤ 60 := by omega
      have HM4 := Lib.hid M4
      have HN4 := Lib.hid N4
      have HD4 := Lib.hid D4
      have HG := Lib.hid hg
      clear M4 N4 D4 hg hc
      go_wp2_with fail
      refine (lawEvents _ m ev _ E 1000 HM4.out.mm.blk.m9 HM4.out.mm.evs (by omega) (by omega) rfl).mono ?_
      rintro e w5 ⟨EA, ec, rfl, E5, hfr, K5⟩
      have hmin : min (1000 : Int).toNat E.length = E.length := Nat.min_eq_right (by simp; omega)
      rw [hmin] at E5 ⊢
      rw [List.take_of_length_le (by simp; omega)] at E5
      have hfr' : ∀ x, EA = some x → ¬ Foot m' g' (.slice none 0 0) x.block := fun x hx hf => by
        have := HN4.out.mm.foot_lt hf
        have := hfr x hx
        omega
      have HE5 := Lib.hid E5
      have HF5 := Lib.hid hfr'
      have HM5 := Lib.hid (HM4.out.more K5)
      have HN5 := Lib.hid (HN4.out.more K5)
      clear E5 hfr hfr' hmin K5 HM4 HN4
      have hon := run_out_neq
      go_wp2_with fail
      go_loopw [11, 57] (fun n i wr => TraceRel2 w1 m g m' g' sz ec EA ev (List.replicate sz (0, 0)) E i n wr) (fun _ i _ => E.length - (intOf i).toNat)
      case atStart => exact ⟨0, .slice none 0 0, Nat.zero_le _, rfl, rfl, HN5.out, HM5.out, HD4.out.symm, HE5.out, HF5.out⟩
      case round =>
        obtain ⟨k2, ev', hk2, rfl, rfl, N6, M6, D6, E6, F6⟩ := hrel
        by_cases hlt2 : k2 < E.length
        · obtain ⟨h, hA⟩ : ∃ h, EA = some ⟨h, 0, none⟩ := by
            rcases E6.2 with ⟨_, h0⟩ | ⟨g, cap, cur, hv, _⟩
            · omega
            · simp at hv; exact ⟨g, hv.1⟩
          subst hA
          obtain ⟨e, he, c0, c1, c2, c3, c4, c5, c6, c7, c8, c9⟩ := ev_cells E6 hlt2 rfl
          have hst := Good_step (List.replicate sz (0, 0)) E k2 hlt2 HG.out
          obtain ⟨_, he'⟩ := List.getElem?_eq_some_iff.1 he
          rw [he'] at hst
          have HN6 := Lib.hid N6
          have HM6 := Lib.hid M6
          have HD6 := Lib.hid D6
          have HE6 := Lib.hid E6
          have HF6 := Lib.hid F6
          have HST := Lib.hid hst
          have HLT := Lib.hid hlt2
          have hk60 : (E.take k2).length ≤ 1000 := by simp; omega
          clear N6 M6 D6 E6 F6 hst he he'
          go_wp2_with fail
          refine (do_both (HN6.out.alloc _) (HM6.out.alloc _) HD6.out e.who e.k e.i e.o e.n hk60 _ HST.out).mono ?_
          rintro e' w6 ⟨rfl, ev6, N7, K7, M7, D7, F7⟩
          have X7 := new_stays HN6.out K7
          have x7 : _ = some (Value.int IntKind.u64 e.p.1) := X7.cell 7
          have x8 : _ = some (Value.int IntKind.u64 e.p.2) := X7.cell 8
          have x9 : _ = some (Value.bool e.ok) := X7.cell 9
          have lx := X7.lt
          have hF := HF6.out _ rfl
          have hE7 : w6.ownsRow 0 57 10 (.slice (some ⟨h, 0, none⟩) E.length ec) E.length (flatE E) := K7.own (HE6.out.alloc _) (fun x hx hf => by simp [Value.ownBlock] at hx; subst hx; exact hF hf)
          have hF7 : ¬ Foot m' g' ev6 h := F7 h (by have := (HE6.out.lt h rfl).2; simp; omega) hF
          have HN7 := Lib.hid N7
          have HM7 := Lib.hid M7
          have HD7 := Lib.hid D7
          have HE7 := Lib.hid hE7
          have HF7 := Lib.hid hF7
          clear N7 K7 M7 D7 F7 X7 hE7 hF7 hF
          simp only [outV] at *
          go_wp2_with fail
          exact ⟨⟨k2 + 1, ev6, HLT.out, rfl, rfl, HN7.out.alloc _, HM7.out.alloc _, HD7.out, HE7.out.alloc _, fun x hx => by injection hx with hx; subst hx; exact HF7.out⟩, by have := HLT.out; simp [intOf]; omega⟩
        · have hkn2 : k2 = E.length := by omega
          subst hkn2
          rw [List.take_of_length_le (Nat.le_refl _)] at N6
          have hw := Good_who E _ HG.out
          have HN6 := Lib.hid N6
          have HM6 := Lib.hid M6
          have HW := Lib.hid hw
          clear N6 M6 D6 E6 F6 hw
          go_wp2_with fail
          go_loop [16, 81] (fun s i => ∃ k3 : Nat, k3 ≤ 8 ∧ i = .int .i64 k3 ∧ s = .int .i64 (sumTo E k3)) (fun _ i => 8 - (intOf i).toNat)
          case atStart => exact ⟨0, by omega, rfl, by rw [sumTo_zero E HW.out]⟩
          case round =>
            obtain ⟨k3, hk3, rfl, rfl⟩ := hrel
            by_cases hlt3 : k3 < 8
            · have hs := sumTo_succ E ⟨k3, hlt3⟩ HW.out
              have y1 := blk_step HM6.out.mm.blk ⟨k3, hlt3⟩
              have y2 := blk_step HN6.out.mm.blk ⟨k3, hlt3⟩
              have b1 := sumTo_le E k3
              have b2 := stepsOf_le E ⟨k3, hlt3⟩
              simp only at hs y1 y2
              generalize stepsOf E ⟨k3, hlt3⟩ = st at *
              have HS := Lib.hid hs
              clear hs
              go_wp2_with (first
                | (go_at_call_of 17 (Value.pointer (some ⟨m, 0, none⟩)); refine (steps_yes _ m k3 hlt3 st y1).mono ?_; rintro e w' ⟨rfl, rfl⟩)
                | (go_at_call_of 17 (Value.pointer (some ⟨m', 0, none⟩)); refine (steps_yes _ m' k3 hlt3 st y2).mono ?_; rintro e w' ⟨rfl, rfl⟩))
              go_round
              case rel => exact ⟨k3 + 1, by omega, rfl, by rw [HS.out]⟩
              case measure => simp [intOf]; omega
            · have hk8 : k3 = 8 := by omega
              subst hk8
              rw [sumTo_all E HW.out]
              go_wp2_with fail
              have hcl : (after (List.replicate sz (0, 0)) E).length = sz := by rw [after_len, List.length_replicate]
              have HCL := Lib.hid hcl
              clear hcl
              generalize after (List.replicate sz (0, 0)) E = cs at *
              have hqn := run_cell_neq
              go_loopw [98] (fun i wr => TraceRel4 w1 m g m' g' sz ev ev' cs E i wr) (fun i _ => sz - (intOf i).toNat)
              case atStart => exact ⟨0, by omega, rfl, HM6.out, HN6.out⟩
              case round =>
                obtain ⟨k4, hk4, rfl, M8, N8⟩ := hrel
                by_cases hlt4 : k4 < sz
                · have hc2' := HCL.out
                  have hp : cs[k4]? = some (cs.getD k4 (0, 0)) := by rw [List.getD_eq_getElem?_getD, List.getElem?_eq_getElem (by omega)]; rfl
                  have hpp := cellEq_self (cs.getD k4 (0, 0))
                  have HP := Lib.hid hp
                  clear hp hc2'
                  generalize cs.getD k4 (0, 0) = pk at *
                  have HM8 := Lib.hid M8
                  have HN8 := Lib.hid N8
                  clear M8 N8
                  go_wp2_with fail
                  refine (peek_inv HM8.out k4 pk HP.out).mono ?_
                  rintro e w10 ⟨rfl, M11, K11⟩
                  simp only [cellV] at *
                  have HM11 := Lib.hid M11
                  have HK11 := Lib.hid K11
                  clear M11 K11
                  go_wp2_with fail
                  have Y1 := Blk.new w10 35 #[.int .u64 pk.1, .int .u64 pk.2]
                  refine (peek_inv ((HN8.out.more HK11.out).alloc _) k4 pk HP.out).mono ?_
                  rintro e w11 ⟨rfl, N12, K12⟩
                  have Y2 := K12.blk Y1 (fun h => h)
                  have y0 : w11.cell? ⟨w10.heap.size, 0, none⟩ = some (.int .u64 pk.1) := Y2.cell 0
                  have y1 : w11.cell? ⟨w10.heap.size, 1, none⟩ = some (.int .u64 pk.2) := Y2.cell 1
                  have ly := Y2.lt
                  simp only [cellV] at *
                  have HN12 := Lib.hid N12
                  have HK12 := Lib.hid K12
                  have HLT4 := Lib.hid hlt4
                  clear N12 K12 Y1 Y2
                  go_wp2_with fail
                  exact ⟨⟨k4 + 1, HLT4.out, rfl, ((HM11.out.alloc _).more HK12.out).alloc _, HN12.out.alloc _⟩, by have := HLT4.out; simp [intOf]; omega⟩
                · obtain ⟨A4, c4, he4⟩ := own_form M8.mm.evs
                  have y9 := M8.mm.blk.m9
                  rw [he4] at y9
                  have HM8 := Lib.hid M8
                  clear M8 N8 he4
                  generalize E.length = n4 at *
                  go_wp2_with (go_at_call 19; refine (total_calls _ m _ _ _ y9).mono ?_; rintro e w' ⟨rfl, rfl⟩)
                  go_ret
                  exact ⟨rfl, (HK1.out.trans HM8.out.kept).toBelow (Nat.le_refl _) (fun _ _ h => h)⟩

end Go.Proofs.Ytkinnhdagdkhcaa
