/- CellClones: the walk of the law, itself. -/
import Derived.Test.YtkinnhdagdkhcaaClones
namespace Go.Proofs.Ytkinnhdagdkhcaa
open Go.RowKit

theorem own_own_ne {w : World} {base base' : Nat} {e e' : TypeId} {size size' n n' : Nat} {v v' : Value} {xs xs' : List Value} (h : w.ownsRow base e size v n xs) (h' : w.ownsRow base' e' size' v' n' xs') (hne : e ≠ e') {x : Nat} (hx : v.ownBlock = some x) : v'.ownBlock ≠ some x := by
  rcases h.2 with ⟨rfl, _⟩ | ⟨g, cap, cur, rfl, _, hh, _⟩
  · simp [Value.ownBlock] at hx
  · intro he
    have hb : Blk w g e cur := hh
    have := own_blk_ne h' hb (fun e => hne e.symm)
    simp [Value.ownBlock] at hx
    subst hx
    exact this he.symm
theorem Inv.grown {w0 w w' : World} {b g cap : Nat} {ev : Value} {cs : List (Int × Int)} {E : List EvD} {row : Option Nat} (h : Inv w0 w b g cap ev cs E) (hg : w.grownBy w' row) (hr : ∀ x, row = some x → ¬ Foot b g ev x ∧ w0.heap.size ≤ x) : Inv w0 w' b g cap ev cs E := by
  have hk : Kept (fun k => some k = row) w w' := Kept.grown hg
  refine ⟨IsMem.keep h.mm hk (fun e => (hr _ e.symm).1 (.inl rfl)) (fun e => (hr _ e.symm).1 (.inr (.inl rfl))) (fun x hx e => (hr _ e.symm).1 (.inr (.inr hx))), ?_, h.hb, h.hg, h.he⟩
  exact ⟨hk.os.trans h.kept.os, hk.tape.trans h.kept.tape, hk.output.trans h.kept.output, Nat.le_trans h.kept.size hk.size, fun k hkl _ => (hk.block k (Nat.lt_of_lt_of_le hkl h.kept.size) (fun e => by have := (hr k e.symm).2; omega)).trans (h.kept.block k hkl (fun h => h))⟩
theorem World.ownsRow.drewN_ {w : World} {base : Nat} {e : TypeId} {size n : Nat} {v : Value} {xs : List Value} (h : w.ownsRow base e size v n xs) (k : Nat) : (w.drewN k).ownsRow base e size v n xs := h
theorem flat_take (cs : List (Int × Int)) (k : Nat) (p : Int × Int) (hp : cs[k]? = some p) : flat (cs.take (k + 1)) = flat (cs.take k) ++ [.int .u64 p.1, .int .u64 p.2] := by
  obtain ⟨hk, rfl⟩ := List.getElem?_eq_some_iff.1 hp
  rw [List.take_succ_eq_append_getElem hk]
  have : ∀ (a : List (Int × Int)) (q : Int × Int), flat (a ++ [q]) = flat a ++ [.int .u64 q.1, .int .u64 q.2] := by
    intro a q
    induction a with
    | nil => rfl
    | cons c r ih => simp [flat, ih]
  exact this _ _

/-- The head of the loop that notes the cells. -/
def ClonesRel2 (w1 wE : World) (b g b' g' sz cap' wc : Nat) (ev ev' : Value) (WA : Option Addr) (cs : List (Int × Int)) (E : List EvD) (v i : Value) (wr : World) : Prop :=
  ∃ (k : Nat) (A : Option Addr) (c : Nat), k ≤ sz ∧ i = .int .i64 k ∧ v = .slice A k c ∧ wr.ownsRow 0 35 2 (.slice A k c) k (flat (cs.take k)) ∧ Inv w1 wr b g sz ev cs E ∧ Inv w1 wr b' g' cap' ev' cs E ∧
    wr.ownsRow 0 57 10 (.slice WA E.length wc) E.length (flatE E) ∧ (∀ x, (Value.slice A k c).ownBlock = some x → wE.heap.size ≤ x) ∧ wE.heap.size ≤ wr.heap.size
/-- The head of the loop that turns the clone. -/
def ClonesRel3 (w1 : World) (b g b' g' sz cap' wc cc : Nat) (ev : Value) (WA CA : Option Addr) (cs : List (Int × Int)) (E : List EvD) (l : List StepD) (i : Value) (wr : World) : Prop :=
  ∃ (k : Nat) (ev' : Value), k ≤ l.length ∧ i = .int .i64 k ∧ Inv w1 wr b g sz ev cs E ∧ Inv w1 wr b' g' cap' ev' (runSets (l.take k) cs E).1 (runSets (l.take k) cs E).2 ∧ Disj b' g' ev' b g ev ∧
    wr.ownsRow 0 57 10 (.slice WA E.length wc) E.length (flatE E) ∧ (∀ x, WA = some x → ¬ Foot b' g' ev' x.block) ∧ wr.ownsRow 0 35 2 (.slice CA sz cc) sz (flat cs) ∧ (∀ x, CA = some x → ¬ Foot b' g' ev' x.block)
/-- The head of a loop that only reads. -/
def ClonesRel4 (W9 : World) (n : Nat) (i : Value) (wr : World) : Prop := ∃ k : Nat, k ≤ n ∧ i = .int .i64 k ∧ Kept (fun _ => False) W9 wr

/-- The head of the loop that looks at the cells again. -/
def ClonesRel5 (w1 : World) (b g sz cc : Nat) (ev : Value) (CA : Option Addr) (cs : List (Int × Int)) (E : List EvD) (i : Value) (wr : World) : Prop :=
  ∃ k : Nat, k ≤ sz ∧ i = .int .i64 k ∧ Inv w1 wr b g sz ev cs E ∧ wr.ownsRow 0 35 2 (.slice CA sz cc) sz (flat cs)

set_option maxRecDepth 100000 in
set_option maxHeartbeats 4000000 in
theorem clones_walk (size : Int) (A : Option Addr) (n c : Nat) (l : List StepD) (B : Option Addr) (n2 c2 : Nat) (l2 : List StepD) (w : World) (_hsize : Int64 size) (hn : l.length = n) (hmax : n ≤ maxLen) (hl : StepsAt w A l)
    (hn2 : l2.length = n2) (hmax2 : n2 ≤ maxLen) (hl2 : StepsAt w B l2) :
    Calls Try.prog 7 #[.int .i64 size, .slice A n c, .slice B n2 c2] w fun e w' => e = .returned (.bool true) ∧ Below w.heap.size w w' := by
  unfold maxLen at hmax hmax2
  by_cases h60 : 60 < n
  · go_enter Try.func7, Try.ntmps7
    go_wp2_with fail
    refine (alive_calls _).mono ?_
    rintro e w1 ⟨rfl, K1⟩
    go_wp2_with fail
    go_ret
    exact ⟨rfl, K1.toBelow (Nat.le_refl _) (fun _ _ h => h)⟩
  by_cases h60b : 60 < n2
  · go_enter Try.func7, Try.ntmps7
    go_wp2_with fail
    refine (alive_calls _).mono ?_
    rintro e w1 ⟨rfl, K1⟩
    go_wp2_with fail
    go_ret
    exact ⟨rfl, K1.toBelow (Nat.le_refl _) (fun _ _ h => h)⟩
  have h60' : n ≤ 60 := by omega
  have h60b' : n2 ≤ 60 := by omega
  obtain ⟨sz, hz1, hz32, hz⟩ := size_bound size
  clear h60 h60b
  have HN := Lib.hid hn
  have HL := Lib.hid hl
  have HN2 := Lib.hid hn2
  have HL2 := Lib.hid hl2
  clear hn hl hn2 hl2
  go_enter Try.func7, Try.ntmps7
  go_wp2_with fail
  refine (alive_calls _).mono ?_
  rintro e w1 ⟨rfl, K1⟩
  have HK1 := Lib.hid K1
  clear K1
  go_wp2_with fail
  refine (new_inv sz (by omega) _).mono ?_
  rintro e w2 ⟨m, g, rfl, M2⟩
  have HM2 := Lib.hid M2
  clear M2
  go_wp2_with fail
  go_loopw [44] (fun i wr => ClonesRel1 w1 m g sz l i wr) (fun i _ => n - (intOf i).toNat)
  case atStart => exact ⟨0, .slice none 0 0, Nat.zero_le _, rfl, HM2.out⟩
  case round =>
    obtain ⟨k, ev, hk, rfl, M4⟩ := hrel
    by_cases hlt : k < n
    · have hlt' : k < l.length := by have := HN.out; omega
      obtain ⟨sb, so, hA, hsb, c0, c1, c2, c3, c4, c5, c6⟩ := step_cells ((HL.out.kept HK1.out).kept M4.kept) hlt'
      subst hA
      have hEl := (runSteps_len (l.take k) (List.replicate sz (0, 0)) []).2
      rw [List.length_take, Nat.min_eq_left (by omega)] at hEl
      simp only [List.length_nil] at hEl
      have HM4 := Lib.hid M4
      have HLT := Lib.hid hlt'
      have HKN := Lib.hid hlt
      clear M4
      go_wp2_with fail
      refine (do_inv (HM4.out.alloc _) l[k].who l[k].k l[k].i l[k].o l[k].n (by omega) _ rfl).mono ?_
      rintro e w4 ⟨rfl, ev4, M5, -⟩
      have HM5 := Lib.hid M5
      clear M5
      go_wp2_with fail
      exact ⟨⟨k + 1, ev4, HLT.out, rfl, by rw [runSteps_take l k HLT.out]; exact HM5.out⟩, by have := HKN.out; simp [intOf]; omega⟩
    · have hkn : k = n := by have := HN.out; omega
      subst hkn
      have hln := HN.out
      rw [List.take_of_length_le (by omega)] at M4
      have hEl := (runSteps_len l (List.replicate sz (0, 0)) []).2
      have hcl := (runSteps_len l (List.replicate sz (0, 0)) []).1
      rw [List.length_replicate] at hcl
      simp only [List.length_nil, Nat.zero_add] at hEl
      generalize (runSteps l (List.replicate sz (0, 0)) []).1 = cs at *
      generalize (runSteps l (List.replicate sz (0, 0)) []).2 = E at *
      have hE60 : E.length ≤ 60 := by omega
      have HM4 := Lib.hid M4
      have HCL := Lib.hid hcl
      clear M4 hcl
      go_wp2_with fail
      refine (lawEvents _ m ev _ E 1000 HM4.out.mm.blk.m9 HM4.out.mm.evs (by omega) (by omega) rfl).mono ?_
      rintro e w5 ⟨WA, wc', rfl, E5, hfr, K5⟩
      have hmin : min (1000 : Int).toNat E.length = E.length := Nat.min_eq_right (by simp; omega)
      rw [hmin] at E5 ⊢
      rw [List.take_of_length_le (by simp; omega)] at E5
      have HE5 := Lib.hid E5
      have HM5 := Lib.hid (HM4.out.more K5)
      clear E5 hmin K5 HM4 hfr
      go_wp2_with fail
      refine (clone_inv HM5.out (by have := HCL.out; omega) (by omega)).mono ?_
      rintro e w6 ⟨m', g', cap', ev', rfl, M6, N6, K6⟩
      have HM6 := Lib.hid M6
      have HN6 := Lib.hid (N6.base HM5.out.kept)
      have HD6 := Lib.hid (HM5.out.disj N6).symm
      have HE6 := Lib.hid (K6.own HE5.out (fun _ _ h => h))
      have HW6 := Lib.hid (fun x hx => N6.foot_ge (x := x) hx)
      clear M6 N6 K6
      go_wp2_with fail
      have HFM := Lib.hid (fun x hx => HM6.out.mm.foot_lt (x := x) hx)
      have HFN := Lib.hid (fun x hx => HN6.out.mm.foot_lt (x := x) hx)
      obtain ⟨i0, hi0, hz0, hzz1, hzz2⟩ := info_parts Try.infoCell
      have hmore := HM6.out.kept.size
      go_loopw [13, 61] (fun v i wr => ClonesRel2 w1 w6 m g m' g' sz cap' wc' ev ev' WA cs E v i wr) (fun _ i _ => sz - (intOf i).toNat)
      case atStart =>
        exact ⟨0, _, 0, by omega, rfl, rfl, ownsRow_empty w6 _ _, HM6.out.alloc _, HN6.out.alloc _, HE6.out.alloc _, fun x hx => by simp [Value.ownBlock] at hx; omega, by simp⟩
      case round =>
        obtain ⟨k2, VA, VC, hk2, rfl, rfl, V7, M7, N7, E7, hv7, hs7⟩ := hrel
        by_cases hlt2 : k2 < sz
        · have hc2' := HCL.out
          have hp : cs[k2]? = some (cs.getD k2 (0, 0)) := by rw [List.getD_eq_getElem?_getD, List.getElem?_eq_getElem (by omega)]; rfl
          have HP := Lib.hid hp
          clear hp hc2'
          generalize cs.getD k2 (0, 0) = pk at *
          have HM7 := Lib.hid M7
          have HN7 := Lib.hid N7
          have HV7 := Lib.hid V7
          have HE7 := Lib.hid E7
          have HX7 := Lib.hid hv7
          have HLT := Lib.hid hlt2
          clear M7 N7 V7 E7 hv7
          go_wp2_with fail
          refine (peek_inv HM7.out k2 pk HP.out).mono ?_
          rintro e w10 ⟨rfl, M11, K11⟩
          have HM11 := Lib.hid M11
          have HN11 := Lib.hid (HN7.out.more K11)
          have HV11 := Lib.hid (K11.own HV7.out (fun _ _ h => h))
          have HE11 := Lib.hid (K11.own HE7.out (fun _ _ h => h))
          have hs11 := Nat.le_trans hs7 K11.size
          clear M11 K11
          simp only [cellV] at *
          go_wp2_with (at_builtin; refine wpList_append_own_at _ rfl (.tmp 70) (.tmp 72) 28 rfl 0 35 i0 _ 2 16 Try.underlying28 hi0 hz0 hzz1 hzz2 rfl (by decide) (.slice VA k2 VC) k2 (flat (cs.take k2)) rfl ((HV11.out.alloc _).alloc _) ⟨w10.heap.size + 1, 0, none⟩ 1 1 [.int .u64 pk.1, .int .u64 pk.2] rfl rfl (World.news_at _ _ _ _ (by simp)) (by simp [Value.oneCell']) (by unfold maxLen; omega) (by omega) (Nat.zero_le _) ?_; intro v1 w11 hown1 hgrow _ hat; obtain ⟨VA1, VC1, rfl⟩ := own_form hown1)
          have hrow : ∀ x, (Value.slice VA k2 VC).ownBlock = some x → ¬ Foot m g ev x ∧ w1.heap.size ≤ x := fun x hx => ⟨fun hf => by have := HFM.out x hf; have := HX7.out x hx; omega, by have := HX7.out x hx; omega⟩
          have hrow' : ∀ x, (Value.slice VA k2 VC).ownBlock = some x → ¬ Foot m' g' ev' x ∧ w1.heap.size ≤ x := fun x hx => ⟨fun hf => by have := HFN.out x hf; have := HX7.out x hx; omega, by have := HX7.out x hx; omega⟩
          have hM12 := ((HM11.out.alloc _).alloc _).grown hgrow hrow
          have hN12 := ((HN11.out.alloc _).alloc _).grown hgrow hrow'
          have hE12 := ((HE11.out.alloc _).alloc _).kept hgrow (by
            cases hWA : (Value.slice WA E.length wc').ownBlock with
            | none => exact .inl rfl
            | some x => exact .inr (fun e => own_own_ne HE11.out HV11.out (by decide) hWA e.symm))
          have hsz := hgrow.size
          simp at hsz
          refine ⟨⟨k2 + 1, VA1, VC1, HLT.out, rfl, rfl, ?_, hM12, hN12, hE12, ?_, by omega⟩, by have := HLT.out; simp [intOf]; omega⟩
          · rw [flat_take cs k2 pk HP.out]
            exact hown1
          · intro x hx
            rcases hat with h | h
            · exact HX7.out x (h ▸ hx)
            · rw [h] at hx
              simp at hx
              omega
        · have hkn2 : k2 = sz := by omega
          subst hkn2
          rw [List.take_of_length_le (by have := HCL.out; omega)] at V7
          have HM7 := Lib.hid M7
          have HN7 := Lib.hid N7
          have HV7 := Lib.hid V7
          have HE7 := Lib.hid E7
          have HX7 := Lib.hid hv7
          clear M7 N7 V7 E7 hv7
          go_wp2_with fail
          have hWF : ∀ x, WA = some x → ¬ Foot m' g' ev' x.block := fun x hx hf => by
            have := HW6.out x.block hf
            have := (HE5.out.lt x.block (by rw [hx]; rfl)).2
            omega
          have hCF : ∀ x, VA = some x → ¬ Foot m' g' ev' x.block := fun x hx hf => by
            have := HFN.out x.block hf
            have := HX7.out x.block (by rw [hx]; rfl)
            omega
          have HWF := Lib.hid hWF
          have HCF := Lib.hid hCF
          clear hWF hCF
          go_loopw [77] (fun i wr => ClonesRel3 w1 m g m' g' k2 cap' wc' VC ev WA VA cs E l2 i wr) (fun i _ => n2 - (intOf i).toNat)
          case atStart => exact ⟨0, ev', Nat.zero_le _, rfl, HM7.out, HN7.out, HD6.out, HE7.out, HWF.out, HV7.out, HCF.out⟩
          case round =>
            obtain ⟨k3, ev3, hk3, rfl, M8, N8, D8, E8, WF8, C8, CF8⟩ := hrel
            by_cases hlt3 : k3 < n2
            · have hlt3' : k3 < l2.length := by have := HN2.out; omega
              obtain ⟨sb, so, hA, hsb, c0, c1, c3, c4, c5, c6, c7⟩ := step_cells ((HL2.out.kept HK1.out).kept M8.kept) hlt3'
              subst hA
              have hEl3 := (runSets_facts (l2.take k3) cs E).2
              rw [List.length_take, Nat.min_eq_left (by omega)] at hEl3
              have hg' : ∀ x, Foot m' g' ev3 x → x < _ := fun x hx => N8.mm.foot_lt hx
              have HM8 := Lib.hid M8
              have HN8 := Lib.hid N8
              have HD8 := Lib.hid D8
              have HE8 := Lib.hid E8
              have HWF8 := Lib.hid WF8
              have HC8 := Lib.hid C8
              have HCF8 := Lib.hid CF8
              have HG8 := Lib.hid hg'
              have HLT := Lib.hid hlt3'
              have HKN := Lib.hid hlt3
              clear M8 N8 D8 E8 WF8 C8 CF8 hg'
              go_wp2_with fail
              refine (do_both (HN8.out.alloc _) (HM8.out.alloc _) HD8.out l2[k3].who l2[k3].k l2[k3].i l2[k3].o l2[k3].n (by omega) _ rfl).mono ?_
              rintro e w4 ⟨rfl, ev4, N9, K9, M9, D9, F9⟩
              have X9 := new_stays HN8.out K9
              have x2 : _ = some (Value.int .i64 l2[k3].i) := X9.cell 2
              have x5 : _ = some (Value.int .u64 l2[k3].n.1) := X9.cell 5
              have x6 : _ = some (Value.int .u64 l2[k3].n.2) := X9.cell 6
              have hE9 := K9.own (HE8.out.alloc _) (fun x hx hf => by
                cases WA with
                | none => simp [Value.ownBlock] at hx
                | some a => simp [Value.ownBlock] at hx; subst hx; exact HWF8.out _ rfl hf)
              have hC9 := K9.own (HC8.out.alloc _) (fun x hx hf => by
                cases VA with
                | none => simp [Value.ownBlock] at hx
                | some a => simp [Value.ownBlock] at hx; subst hx; exact HCF8.out _ rfl hf)
              have hWF9 : ∀ x, WA = some x → ¬ Foot m' g' ev4 x.block := fun x hx => F9 x.block (by have := (HE8.out.lt x.block (by rw [hx]; rfl)).2; simp; omega) (HWF8.out x hx)
              have hCF9 : ∀ x, VA = some x → ¬ Foot m' g' ev4 x.block := fun x hx => F9 x.block (by have := (HC8.out.lt x.block (by rw [hx]; rfl)).2; simp; omega) (HCF8.out x hx)
              have HN9 := Lib.hid N9
              have HM9 := Lib.hid M9
              have HD9 := Lib.hid D9
              have HE9 := Lib.hid hE9
              have HC9 := Lib.hid hC9
              have HWF9 := Lib.hid hWF9
              have HCF9 := Lib.hid hCF9
              clear N9 K9 M9 D9 F9 X9 hE9 hC9 hWF9 hCF9
              go_wp2_with fail
              refine (set_both HN9.out HM9.out HD9.out l2[k3].i l2[k3].n).mono ?_
              rintro e w5 ⟨x, rfl, N10, K10, M10⟩
              have hE10 := K10.own HE9.out (fun x hx hf => by
                cases WA with
                | none => simp [Value.ownBlock] at hx
                | some a => simp [Value.ownBlock] at hx; subst hx; exact HWF9.out _ rfl hf)
              have hC10 := K10.own HC9.out (fun x hx hf => by
                cases VA with
                | none => simp [Value.ownBlock] at hx
                | some a => simp [Value.ownBlock] at hx; subst hx; exact HCF9.out _ rfl hf)
              have HN10 := Lib.hid N10
              have HM10 := Lib.hid M10
              have HE10 := Lib.hid hE10
              have HC10 := Lib.hid hC10
              clear N10 K10 M10 hE10 hC10
              go_wp2_with fail
              exact ⟨⟨k3 + 1, ev4, HLT.out, rfl, HM10.out, by rw [runSets_take l2 k3 HLT.out]; exact HN10.out, HD9.out, HE10.out, HWF9.out, HC10.out, HCF9.out⟩, by have := HKN.out; simp [intOf]; omega⟩
            · have hkn3 : k3 = n2 := by have := HN2.out; omega
              subst hkn3
              rw [List.take_of_length_le (by have := HN2.out; omega)] at N8
              obtain ⟨⟨F, hF⟩, hlen⟩ := runSets_facts l2 cs E
              have hlen2 : (runSets l2 cs E).2.length ≤ 120 := by have := HN2.out; omega
              have hle : E.length ≤ (runSets l2 cs E).2.length := by rw [hF]; simp
              generalize (runSets l2 cs E).1 = cs3 at *
              generalize (runSets l2 cs E).2 = E2 at *
              obtain ⟨MA, mc, hmA⟩ := own_form M8.mm.evs
              obtain ⟨NA, nc, hnA⟩ := own_form N8.mm.evs
              have y9 := M8.mm.blk.m9
              have z9 := N8.mm.blk.m9
              rw [hmA] at y9
              rw [hnA] at z9
              have HF := Lib.hid hF
              have HM8 := Lib.hid M8
              have HN8 := Lib.hid N8
              have HE8 := Lib.hid E8
              have HC8 := Lib.hid C8
              clear M8 N8 D8 E8 WF8 C8 CF8 hF hmA hnA hlen
              go_wp2_with (go_at_call 19; refine (total_calls _ m _ _ _ y9).mono ?_; rintro e w' ⟨rfl, rfl⟩)
              refine (lawEvents _ m ev _ E 1000 HM8.out.mm.blk.m9 HM8.out.mm.evs (by omega) (by omega) rfl).mono ?_
              rintro e w7 ⟨TA, tc, rfl, -, -, K7⟩
              rw [show min (1000 : Int).toNat E.length = E.length from Nat.min_eq_right (by simp; omega)]
              have z9' := K7.cell_some (fun h => h) z9
              have HM9 := Lib.hid (HM8.out.more K7)
              have HN9 := Lib.hid (HN8.out.more K7)
              have HE9 := Lib.hid (K7.own HE8.out (fun _ _ h => h))
              have HC9 := Lib.hid (K7.own HC8.out (fun _ _ h => h))
              clear K7
              go_wp2_with (go_at_call 19; refine (total_calls _ m' _ _ _ z9').mono ?_; rintro e w' ⟨rfl, rfl⟩)
              refine (lawEvents _ m' _ _ E2 1000 HN9.out.mm.blk.m9 HN9.out.mm.evs (by omega) (by omega) rfl).mono ?_
              rintro e w8 ⟨TB, tb, rfl, E8, -, K8⟩
              have hmin : min (1000 : Int).toNat E2.length = E2.length := Nat.min_eq_right (by simp; omega)
              rw [hmin] at E8 ⊢
              rw [List.take_of_length_le (by simp; omega)] at E8
              have HT8 := Lib.hid E8
              have HM10 := Lib.hid (HM9.out.more K8)
              have HE10 := Lib.hid (K8.own HE9.out (fun _ _ h => h))
              have HC10 := Lib.hid (K8.own HC9.out (fun _ _ h => h))
              clear K8 hmin E8
              have hqe := run_ev_neq
              go_wp2_with fail
              go_loopw [119] (fun i wr => ClonesRel4 w8 E2.length i wr) (fun i _ => E2.length - (intOf i).toNat)
              case atStart => exact ⟨0, Nat.zero_le _, rfl, Kept.refl _ _⟩
              case round =>
                obtain ⟨k4, hk4, rfl, K9⟩ := hrel
                by_cases hlt4 : k4 < E2.length
                · obtain ⟨h, hA⟩ : ∃ h, TB = some ⟨h, 0, none⟩ := by
                    rcases HT8.out.2 with ⟨_, h0⟩ | ⟨g, cap, cur, hv, _⟩
                    · omega
                    · simp at hv; exact ⟨g, hv.1⟩
                  subst hA
                  obtain ⟨e, he, c0, c1, c3, c4, c5, c6, c7, c8, c9, c10⟩ := ev_cells (K9.own HT8.out (fun _ _ h => h)) hlt4 rfl
                  by_cases hltE : k4 < E.length
                  · obtain ⟨h', hA'⟩ : ∃ h, WA = some ⟨h, 0, none⟩ := by
                      rcases HE10.out.2 with ⟨_, h0⟩ | ⟨g, cap, cur, hv, _⟩
                      · omega
                      · simp at hv; exact ⟨g, hv.1⟩
                    subst hA'
                    obtain ⟨e', he', d0, d1, d3, d4, d5, d6, d7, d8, d9, d10⟩ := ev_cells (K9.own HE10.out (fun _ _ h => h)) hltE rfl
                    have hee : e' = e := by
                      rw [HF.out, List.getElem?_append_left hltE, he'] at he
                      injection he
                    subst hee
                    have lw := World.block_lt_of_cell? _ _ d0
                    simp only at lw
                    have HK9 := Lib.hid K9
                    have HLT := Lib.hid hlt4
                    have hdE : decide ((k4 : Int) < (E.length : Int)) = true := by simpa using hltE
                    clear K9 he he'
                    go_wp2_with fail
                    go_quiet (fail)
                    go_wp2_with fail
                    exact ⟨⟨k4 + 1, HLT.out, rfl, (HK9.out.alloc _).drewN _⟩, by have := HLT.out; simp [intOf]; omega⟩
                  · have HK9 := Lib.hid K9
                    have HLT := Lib.hid hlt4
                    have hdE : decide ((k4 : Int) < (E.length : Int)) = false := by simpa using hltE
                    clear K9 he
                    go_wp2_with fail
                    go_quiet (fail)
                    go_wp2_with fail
                    exact ⟨⟨k4 + 1, HLT.out, rfl, (HK9.out.alloc _).drewN _⟩, by have := HLT.out; simp [intOf]; omega⟩
                · have HM11 := Lib.hid (HM10.out.more K9)
                  have HC11 := Lib.hid (K9.own HC10.out (fun _ _ h => h))
                  clear K9
                  go_wp2_with fail
                  have hqn := run_cell_neq
                  go_loopw [138] (fun i wr => ClonesRel5 w1 m g k2 VC ev VA cs E i wr) (fun i _ => k2 - (intOf i).toNat)
                  case atStart => exact ⟨0, Nat.zero_le _, rfl, HM11.out, HC11.out⟩
                  case round =>
                    obtain ⟨k5, hk5, rfl, M12, C12⟩ := hrel
                    by_cases hlt5 : k5 < k2
                    · have hc2' := HCL.out
                      have hp : cs[k5]? = some (cs.getD k5 (0, 0)) := by rw [List.getD_eq_getElem?_getD, List.getElem?_eq_getElem (by omega)]; rfl
                      have hpp := cellEq_self (cs.getD k5 (0, 0))
                      obtain ⟨h, hA⟩ : ∃ h, VA = some ⟨h, 0, none⟩ := by
                        rcases C12.2 with ⟨_, h0⟩ | ⟨g, cap, cur, hv, _⟩
                        · omega
                        · simp at hv; exact ⟨g, hv.1⟩
                      subst hA
                      have f0 := flat_fst cs k5 _ hp
                      have f1 := flat_snd cs k5 _ hp
                      have HP := Lib.hid hp
                      clear hp hc2'
                      generalize cs.getD k5 (0, 0) = pk at *
                      have HM12 := Lib.hid M12
                      have HC12 := Lib.hid C12
                      have HF0 := Lib.hid f0
                      have HF1 := Lib.hid f1
                      clear M12 C12 f0 f1
                      go_wp2_with fail
                      refine (peek_inv HM12.out k5 pk HP.out).mono ?_
                      rintro e w10 ⟨rfl, M13, K13⟩
                      have C13 := K13.own HC12.out (fun _ _ h => h)
                      have d0 := (C13.cellAt (k5 * 2) (by omega)).trans HF0.out
                      have d1 := (C13.cellAt (k5 * 2 + 1) (by omega)).trans HF1.out
                      have lh := (C13.lt h rfl).2
                      have HM13 := Lib.hid M13
                      have HC13 := Lib.hid C13
                      have HLT := Lib.hid hlt5
                      clear M13 K13 C13
                      simp only [cellV] at *
                      go_wp2_with fail
                      go_quiet (fail)
                      go_wp2_with fail
                      exact ⟨⟨k5 + 1, HLT.out, rfl, (HM13.out.alloc _).drewN _, World.ownsRow.drewN_ (HC13.out.alloc _) _⟩, by have := HLT.out; simp [intOf]; omega⟩
                    · have hkn5 : k5 = k2 := by omega
                      subst hkn5
                      have HM12 := Lib.hid M12
                      clear M12 C12
                      go_wp2_with fail
                      refine (set_no _ m _ (0, 0) _ _ _ HM12.out.mm.blk.m0 (.inr (by have := HCL.out; omega))).mono ?_
                      rintro e w10 ⟨rfl, b10⟩
                      have HM13 := Lib.hid (HM12.out.below b10)
                      clear b10
                      go_wp2_with fail
                      refine (set_no _ m _ (0, 0) _ _ _ HM13.out.mm.blk.m0 (.inl (by omega))).mono ?_
                      rintro e w11 ⟨rfl, b11⟩
                      have M14 := HM13.out.below b11
                      obtain ⟨MA, mc, hmA⟩ := own_form M14.mm.evs
                      have q9 := M14.mm.blk.m9
                      rw [hmA] at q9
                      have HM14 := Lib.hid M14
                      clear b11 M14 hmA
                      go_wp2_with (go_at_call 19; refine (total_calls _ m _ _ _ q9).mono ?_; rintro e w' ⟨rfl, rfl⟩)
                      go_ret
                      exact ⟨rfl, (HK1.out.trans HM14.out.kept).toBelow (Nat.le_refl _) (fun _ _ h => h)⟩

end Go.Proofs.Ytkinnhdagdkhcaa
