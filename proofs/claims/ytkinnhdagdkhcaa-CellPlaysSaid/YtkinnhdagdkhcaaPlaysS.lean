/- CellPlays: the law's own 'same'. -/
import Derived.Test.YtkinnhdagdkhcaaPlaysC
namespace Go.Proofs.Ytkinnhdagdkhcaa
open Go.RowKit

set_option maxHeartbeats 4000000 in
theorem same_calls {w0 w : World} {b g cap : Nat} {ev : Value} {cs : List (Int × Int)} {E : List EvD} (M : Inv w0 w b g cap ev cs E) {CA : Option Addr} {cc : Nat} {EA : Option Addr} {ec : Nat} (hX : XRep w CA cc EA ec cs E) (hm4 : cs.length ≤ 1000) (hte4 : E.length ≤ 1000) :
    Calls Try.prog 15 #[.pointer (some ⟨b, 0, none⟩), xV CA cs.length cc EA E.length ec] w fun e w' => e = .returned (.bool true) ∧ Kept (fun _ => False) w w' := by
  unfold xV
  have HM := Lib.hid M
  have HX := Lib.hid hX
  clear M hX
  go_enter Try.func15, Try.ntmps15
  go_wp2_with (go_at_call 16; refine (lawEvents _ b ev _ E 1000 (HM.out.alloc _).mm.blk.m9 (HM.out.alloc _).mm.evs (by omega) (by omega) rfl).mono ?_)
  rintro e w5 ⟨EA2, ec2, rfl, E5, hfr, K5⟩
  have hmin : min (1000 : Int).toNat E.length = E.length := Nat.min_eq_right (by simp; omega)
  rw [hmin] at E5 ⊢
  rw [List.take_of_length_le (by simp; omega)] at E5
  have X0 := K5.blk (Blk.new w 31 #[.slice CA cs.length cc, .slice EA E.length ec]) (fun h => h)
  have M5 := (HM.out.alloc _).more K5
  have K0 : Kept (fun _ => False) w w5 := ((Kept.refl _ w).alloc _).trans K5
  have m0 := M5.mm.blk.m0
  obtain ⟨A4, c4, he4⟩ := own_form M5.mm.evs
  have m9 := M5.mm.blk.m9
  rw [he4] at m9
  have x0 : w5.cell? ⟨w.heap.size, 0, none⟩ = some (.slice CA cs.length cc) := X0.cell 0
  have x1 : w5.cell? ⟨w.heap.size, 1, none⟩ = some (.slice EA E.length ec) := X0.cell 1
  have lx := X0.lt
  have HM5 := Lib.hid M5
  have HK0 := Lib.hid K0
  have HE5 := Lib.hid E5
  have HX0 := Lib.hid X0
  clear M5 K0 E5 X0 hfr hmin K5 HM he4
  have m0d : w5.drew.cell? ⟨b, 0, none⟩ = some (.slice (some ⟨g, 0, none⟩) cs.length cap) := m0
  have m9d : w5.drew.cell? ⟨b, 9, none⟩ = some (.slice A4 E.length c4) := m9
  have x0d : w5.drew.cell? ⟨w.heap.size, 0, none⟩ = some (.slice CA cs.length cc) := x0
  have x1d : w5.drew.cell? ⟨w.heap.size, 1, none⟩ = some (.slice EA E.length ec) := x1
  go_wp2_with fail
  go_region_held3 (fun W => W.cell? ⟨b, 0, none⟩ = some (.slice (some ⟨g, 0, none⟩) cs.length cap) ∧ W.cell? ⟨b, 9, none⟩ = some (.slice A4 E.length c4) ∧ W.cell? ⟨w.heap.size, 0, none⟩ = some (.slice CA cs.length cc) ∧ W.cell? ⟨w.heap.size, 1, none⟩ = some (.slice EA E.length ec))
    (exact ⟨m0d, m9d, x0d, x1d⟩)
    (first
      | (go_at_call 21; refine (size_calls _ b _ _ _ m0d).mono ?_; rintro e w' ⟨rfl, rfl⟩)
      | (go_at_call 19; refine (total_calls _ b _ _ _ m9d).mono ?_; rintro e w' ⟨rfl, rfl⟩))
  have hqn := run_cell_neq
  clear m0 m9 m0d m9d x0d x1d
  go_wp2_with fail
  go_loopw [40] (fun i wr => ∃ k : Nat, k ≤ cs.length ∧ i = .int .i64 k ∧ Kept (fun _ => False) w5 wr) (fun i _ => cs.length - (intOf i).toNat)
  case atStart => exact ⟨0, Nat.zero_le _, rfl, (Kept.refl _ _).drew⟩
  case round =>
    obtain ⟨k, hk, rfl, Kr⟩ := hrel
    rename_i wr
    by_cases hlt : k < cs.length
    · have hp : cs[k]? = some (cs.getD k (0, 0)) := by rw [List.getD_eq_getElem?_getD, List.getElem?_eq_getElem hlt]; rfl
      have hpp := cellEq_self (cs.getD k (0, 0))
      generalize cs.getD k (0, 0) = pk at *
      have hXr := (HX.out.kept HK0.out).kept Kr
      obtain ⟨h, hA⟩ : ∃ h, CA = some ⟨h, 0, none⟩ := by
        rcases hXr.cells.2 with ⟨_, h0⟩ | ⟨g, cap, cur, hv, _⟩
        · omega
        · simp at hv; exact ⟨g, hv.1⟩
      subst hA
      have c0 := (hXr.cells.cellAt (k * 2) (by omega)).trans (flat_fst cs k pk hp)
      have c1 := (hXr.cells.cellAt (k * 2 + 1) (by omega)).trans (flat_snd cs k pk hp)
      have HP := Lib.hid hp
      have HKr := Lib.hid Kr
      have HLT := Lib.hid hlt
      clear hp hXr Kr
      go_wp2_with fail
      refine (peek_inv ((HM5.out.more HKr.out).alloc _) k pk HP.out).mono ?_
      rintro e w10 ⟨rfl, M11, K11⟩
      have Y2 := K11.blk (Blk.new wr 35 #[.int .u64 pk.1, .int .u64 pk.2]) (fun h => h)
      have y0 : w10.cell? ⟨wr.heap.size, 0, none⟩ = some (.int .u64 pk.1) := Y2.cell 0
      have y1 : w10.cell? ⟨wr.heap.size, 1, none⟩ = some (.int .u64 pk.2) := Y2.cell 1
      have ly := Y2.lt
      simp only [cellV] at *
      have HK11 := Lib.hid K11
      clear K11 M11 Y2 c0 c1
      go_wp2_with fail
      exact ⟨⟨k + 1, HLT.out, rfl, ((HKr.out.alloc _).trans HK11.out).alloc _⟩, by have := HLT.out; simp [intOf]; omega⟩
    · have x1' : wr.cell? ⟨w.heap.size, 1, none⟩ = some (.slice EA E.length ec) := Kr.cell_some (fun h => h) x1
      have hkn : k = cs.length := by omega
      subst hkn
      have HKr := Lib.hid Kr
      clear Kr
      go_wp2_with fail
      have hen := run_ev_neq
      clear hqn x1'
      go_loopw [62] (fun i wr => ∃ k : Nat, k ≤ E.length ∧ i = .int .i64 k ∧ Kept (fun _ => False) w5 wr) (fun i _ => E.length - (intOf i).toNat)
      case atStart => exact ⟨0, Nat.zero_le _, rfl, HKr.out⟩
      case round =>
        obtain ⟨k, hk, rfl, Kr⟩ := hrel
        by_cases hlt : k < E.length
        · have hT := ((HX.out.kept HK0.out).kept Kr).trace
          have hL := Kr.own HE5.out (fun _ _ h => h)
          obtain ⟨h, hA⟩ : ∃ h, EA = some ⟨h, 0, none⟩ := by
            rcases hT.2 with ⟨_, h0⟩ | ⟨g, cap, cur, hv, _⟩
            · omega
            · simp at hv; exact ⟨g, hv.1⟩
          obtain ⟨h2, hA2⟩ : ∃ h2, EA2 = some ⟨h2, 0, none⟩ := by
            rcases hL.2 with ⟨_, h0⟩ | ⟨g, cap, cur, hv, _⟩
            · omega
            · simp at hv; exact ⟨g, hv.1⟩
          subst hA hA2
          obtain ⟨e, he, c0, c1, c2, c3, c4, c5, c6, c7, c8, c9⟩ := ev_cells hT hlt rfl
          obtain ⟨e', he', d0, d1, d2, d3, d4, d5, d6, d7, d8, d9⟩ := ev_cells hL hlt rfl
          rw [he] at he'
          injection he' with he'
          subst he'
          have lh2 := World.block_lt_of_cell? _ _ d0
          have HKs := Lib.hid Kr
          have HLT := Lib.hid hlt
          clear hT hL Kr he
          go_wp2_with fail
          go_region
          go_wp2_with fail
          exact ⟨⟨k + 1, HLT.out, rfl, by repeat' (first | exact HKs.out | apply Kept.drew | apply Kept.alloc)⟩, by have := HLT.out; simp [intOf]; omega⟩
        · have hkn : k = E.length := by omega
          subst hkn
          have HKs := Lib.hid Kr
          clear Kr HKr hen
          go_wp2_with fail
          go_loopw [74] (fun i wr => ∃ k : Nat, k ≤ 8 ∧ i = .int .i64 k ∧ Kept (fun _ => False) w5 wr) (fun i _ => 8 - (intOf i).toNat)
          case atStart => exact ⟨0, by omega, rfl, HKs.out⟩
          case round =>
            obtain ⟨k, hk, rfl, Kr⟩ := hrel
            by_cases hlt : k < 8
            · have X1 := Kr.drew.blk HX0.out (fun h => h)
              have M1 := HM5.out.more Kr.drew
              have hRS := refSteps_calls (((HX.out.kept HK0.out).kept Kr.drew)) ⟨k, hlt⟩ hte4
              have y1 := blk_step M1.mm.blk ⟨k, hlt⟩
              have b2 := stepsOf_le E ⟨k, hlt⟩
              have z0 := X1.cell 0
              have z1 := X1.cell 1
              simp only at y1 hRS
              generalize stepsOf E ⟨k, hlt⟩ = st at *
              unfold xV at hRS
              have z0' : _ = some (Value.slice CA cs.length cc) := z0
              have z1' : _ = some (Value.slice EA E.length ec) := z1
              have HKt := Lib.hid Kr
              clear Kr X1 M1 z0 z1
              go_wp2_with fail
              go_region_held3 (fun W => W.cell? ⟨b, 1 + k, none⟩ = some (.int .i64 st) ∧ W.cell? ⟨w.heap.size, 0, none⟩ = some (.slice CA cs.length cc) ∧ W.cell? ⟨w.heap.size, 1, none⟩ = some (.slice EA E.length ec))
                (first | exact ⟨y1, z0', z1'⟩ | exact ⟨K9.cell_some (fun h => h) y1, K9.cell_some (fun h => h) z0', K9.cell_some (fun h => h) z1'⟩)
                (first
                  | (go_at_call 17; refine (steps_yes _ b k hlt st y1).mono ?_; rintro e w' ⟨rfl, rfl⟩)
                  | (go_at_call 27; refine hRS.mono ?_; rintro e w9 ⟨rfl, K9⟩))
              have HK9 := Lib.hid K9
              have HLT := Lib.hid hlt
              clear K9
              go_wp2_with fail
              exact ⟨⟨k + 1, HLT.out, rfl, HKt.out.drew.trans HK9.out⟩, by have := HLT.out; simp [intOf]; omega⟩
            · have hkn : k = 8 := by omega
              subst hkn
              have HKt := Lib.hid Kr
              clear Kr
              go_wp2_with fail
              go_ret
              exact ⟨rfl, HK0.out.trans HKt.out⟩

end Go.Proofs.Ytkinnhdagdkhcaa
