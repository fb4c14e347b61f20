/- Layer 10 (pool): Settle. -/
import Derived.Test.YthjkodjpopcjaaaPoG
namespace Go.Proofs.Ythjkodjpopcjaaa
open Go.RowKit Go.Maps
attribute [local go_sem ↓] loadMap_eq

/-- How many stay in limbo, how many blocks are free, what is put. -/
structure SetD where
  stay : Nat
  nt : Int
  ps : List (Int × Int)
def stStep (c : CfgD) (r : Int) (nm : List Int) (i : Nat) (s : SetD) (a : Int) : SetD :=
  if c.b ≤ a then s
  else if nm.count (a + 1) = 0 then ⟨s.stay, (freeD c r s.nt s.ps a).1, (freeD c r s.nt s.ps a).2⟩
  else ⟨s.stay + 1, s.nt, if s.stay = i then s.ps else putAt c r s.ps 15 (s.stay : Int) a⟩
def stL (c : CfgD) (r : Int) (nm : List Int) : Nat → SetD → List Int → SetD
  | _, s, [] => s
  | i, s, a :: l => stL c r nm (i + 1) (stStep c r nm i s a) l
theorem stL_snoc (c : CfgD) (r : Int) (nm : List Int) (a : Int) : ∀ (l : List Int) (i : Nat) (s : SetD), stL c r nm i s (l ++ [a]) = stStep c r nm (i + l.length) (stL c r nm i s l) a
  | [], i, s => rfl
  | x :: l, i, s => by
    show stL c r nm (i + 1) (stStep c r nm i s x) (l ++ [a]) = _
    rw [stL_snoc c r nm a l (i + 1), List.length_cons, show i + 1 + l.length = i + (l.length + 1) by omega]
    rfl
theorem stL_next {c : CfgD} {r : Int} {nm l : List Int} {s : SetD} {k : Nat} {a : Int} (h : l[k]? = some a) : stL c r nm 0 s (l.take (k + 1)) = stStep c r nm k (stL c r nm 0 s (l.take k)) a := by
  have hk : k < l.length := (List.getElem?_eq_some_iff.1 h).1
  have e : l.take (k + 1) = l.take k ++ [a] := by rw [List.take_add_one, h]; rfl
  rw [e, stL_snoc, Nat.zero_add, List.length_take, Nat.min_eq_left (by omega)]
theorem freeD_bd {c : CfgD} {r nt : Int} {ps : List (Int × Int)} {a : Int} (h : 0 ≤ nt ∧ nt ≤ c.b) : 0 ≤ (freeD c r nt ps a).1 ∧ (freeD c r nt ps a).1 ≤ c.b := by
  unfold freeD
  split
  · simp only; omega
  · exact h
theorem stStep_bd {c : CfgD} {r : Int} {nm : List Int} {i : Nat} {s : SetD} {a : Int} (h : 0 ≤ s.nt ∧ s.nt ≤ c.b) (hs : s.stay ≤ i) : (0 ≤ (stStep c r nm i s a).nt ∧ (stStep c r nm i s a).nt ≤ c.b) ∧ (stStep c r nm i s a).stay ≤ i + 1 := by
  unfold stStep
  split
  · exact ⟨h, by omega⟩
  · split
    · exact ⟨freeD_bd h, by simp only; omega⟩
    · exact ⟨h, by simp only; omega⟩
theorem stL_bd {c : CfgD} {r : Int} {nm : List Int} {s : SetD} (h : 0 ≤ s.nt ∧ s.nt ≤ c.b) (hs : s.stay = 0) (l : List Int) : ∀ k, k ≤ l.length → (0 ≤ (stL c r nm 0 s (l.take k)).nt ∧ (stL c r nm 0 s (l.take k)).nt ≤ c.b) ∧ (stL c r nm 0 s (l.take k)).stay ≤ k
  | 0, _ => ⟨h, by simp [stL, hs]⟩
  | k + 1, hk => by
    obtain ⟨a, ha⟩ : ∃ a, l[k]? = some a := ⟨_, List.getElem?_eq_getElem (by omega)⟩
    rw [stL_next ha]
    have := stL_bd (r := r) (nm := nm) h hs l k (by omega)
    exact stStep_bd this.1 this.2
def settleD (c : CfgD) (r : Int) (p : PoD) (ps : List (Int × Int)) : PoD × List (Int × Int) :=
  if p.st ≠ 1 ∨ p.sd = true then (p, ps) else ({ p with sd := true, nt := (stL c r p.nm 0 ⟨0, p.nt, ps⟩ p.lm).nt, nl := (stL c r p.nm 0 ⟨0, p.nt, ps⟩ p.lm).stay }, (stL c r p.nm 0 ⟨0, p.nt, ps⟩ p.lm).ps)
section
variable {G : Nat → Prop} {R : World → Prop} {w0 w w' : World} {B mb : Nat} {lv : Value} {c : CfgD} {p : PoD} {n b : Nat} {r : Int} {ps : List (Int × Int)} {k : Nat}
/-- The loop over limbo. -/
def SeRel (G : Nat → Prop) (R : World → Prop) (w0 : World) (B mb : Nat) (lv : Value) (c : CfgD) (p : PoD) (n b : Nat) (r : Int) (ps : List (Int × Int)) (k : Nat) (st i : Value) (wr : World) : Prop :=
  ∃ (W : World) (m : Nat) (s : SetD), W = wr ∧ i = .int .i64 m ∧ st = .int .i64 s.stay ∧ m ≤ p.lm.length ∧ s = stL c r p.nm 0 ⟨0, p.nt, ps⟩ (p.lm.take m) ∧ PX G R w0 W B mb lv c { p with sd := true, nt := s.nt } n b r s.ps (k + 2 * m)
set_option maxRecDepth 100000 in
set_option maxHeartbeats 4000000 in
theorem PX.settle (h : PX G R w0 w B mb lv c p n b r ps k) (hc : c.Bd) (hn : 0 ≤ p.nt ∧ p.nt ≤ c.b) (hlm : p.lm.length ≤ 1000) (hel : ∀ a ∈ p.lm, 0 ≤ a ∧ a ≤ 18446744073709551615) (hk : k ≤ 50000) :
    Calls Try.prog 28 #[.pointer (some ⟨B, 0, none⟩), .pointer (some ⟨b, 0, none⟩)] w fun e w' => e = .returned (.tuple #[]) ∧ PX G R w0 w' B mb lv c (settleD c r p ps).1 n b r (settleD c r p ps).2 (k + 2 * p.lm.length) := by
  have d1 := h.pool.cells.st
  have d2 := h.pool.cells.sd
  have g2 := Blk.frozen h.pool.blk 29
  have d3 := h.pool.cells.lm
  have b64 := hc.b64
  have b1 := hc.b1
  have HH := Lib.hid h
  have HC := Lib.hid hc
  have HK := Lib.hid hk
  have HN := Lib.hid hn
  have HLM := Lib.hid hlm
  have HEL := Lib.hid hel
  obtain ⟨LA, LC, hLV⟩ := own_form h.pool.lim
  subst hLV
  clear h hc hk hlm hel
  by_cases h1 : p.st = 1
  · cases hsd : p.sd with
    | true =>
      have HE : Hid (settleD c r p ps = (p, ps)) := Lib.hid (by unfold settleD; rw [if_pos (.inr hsd)])
      rw [hsd] at d2
      rw [h1] at d1
      clear h1 hsd
      go_enter Try.func28, Try.ntmps28
      go_wp2_with fail
      exact bodyPost_ret (v := .tuple #[]) (by simp [results, Try.results28, go_sem]) rfl ⟨rfl, by rw [HE.out]; exact HH.out.morek _⟩
    | false =>
      have HE : Hid (settleD c r p ps = ({ p with sd := true, nt := (stL c r p.nm 0 ⟨0, p.nt, ps⟩ p.lm).nt, nl := (stL c r p.nm 0 ⟨0, p.nt, ps⟩ p.lm).stay }, (stL c r p.nm 0 ⟨0, p.nt, ps⟩ p.lm).ps)) := Lib.hid (by unfold settleD; rw [if_neg (by simp [h1, hsd])])
      have H1 := Lib.hid (HH.out.fld 29 (.bool true) (p' := { p with sd := true }) rfl rfl rfl)
      rw [hsd] at d2
      rw [h1] at d1
      clear h1 hsd
      go_enter Try.func28, Try.ntmps28
      go_wp2_with fail
      go_loopw [4, 26] (fun st i wr => SeRel G R w0 B mb (.slice LA p.lm.length LC) c p n b r ps k st i wr) (fun _ i _ => p.lm.length - (intOf i).toNat)
      case atStart => exact ⟨_, 0, ⟨0, p.nt, ps⟩, rfl, rfl, rfl, Nat.zero_le _, rfl, H1.out⟩
      case round =>
        obtain ⟨Wa, m, s, rfl, rfl, rfl, hm, hs, hS⟩ := hrel
        by_cases hlt : m < p.lm.length
        · have hd : decide ((m : Int) < p.lm.length) = true := decide_eq_true (by omega)
          obtain ⟨a, ha⟩ : ∃ a, p.lm[m]? = some a := ⟨_, List.getElem?_eq_getElem hlt⟩
          obtain ⟨g, cc, e1, hcc⟩ := own_some hS.pool.lim (by show 0 < p.lm.length; omega)
          injection e1 with e1 _ e3
          subst e1 e3
          have c0 : Wa.cell? ⟨g, m, none⟩ = some (.int .u64 a) := (hS.pool.lim.cellAt m (by show m < p.lm.length * 1; omega)).trans (by show (u64L p.lm)[m]? = _; rw [u64L, List.getElem?_map, ha]; rfl)
          have HAB := Lib.hid (HEL.out a (List.mem_of_getElem? ha))
          obtain ⟨⟨hn0, hn1⟩, hst⟩ := stL_bd (r := r) (nm := p.nm) (s := ⟨0, p.nt, ps⟩) HN.out rfl p.lm m hm
          rw [← hs] at hn0 hn1 hst
          have hnx := stL_next (c := c) (r := r) (nm := p.nm) (s := ⟨0, p.nt, ps⟩) ha
          rw [← hs] at hnx
          have HNX := Lib.hid hnx
          have HSB := Lib.hid (And.intro hn0 (And.intro hn1 hst))
          have HS := Lib.hid hS
          have hl := hS.pool.ldm
          have hf := fld_cfg_b c
          have ew : IntKind.u64.wrap c.b = c.b := IntWalk.u64_in _ (by omega)
          have e3 : IntKind.i64.wrap ((m : Int) + 1) = m + 1 := IntWalk.i64_in _ (by have := HLM.out; omega)
          have e4 : IntKind.i64.wrap ((s.stay : Int) + 1) = s.stay + 1 := IntWalk.i64_in _ (by have := HLM.out; omega)
          have hkk : k + 2 * (m + 1) = k + 2 * m + 2 := by omega
          have HKK := Lib.hid hkk
          clear hS hs hnx hn0 hn1 hst ha hkk hcc
          by_cases hab : c.b ≤ a
          · have hd1 : decide (c.b ≤ a) = true := decide_eq_true hab
            have HXE : s = stL c r p.nm 0 ⟨0, p.nt, ps⟩ (p.lm.take (m + 1)) := by rw [HNX.out]; unfold stStep; rw [if_pos hab]
            replace HXE := Lib.hid HXE
            clear hab
            go_wp2_with (go_at_call 70; ((with_reducible refine (cfgK_calls c _).mono ?_); rintro e w1 ⟨rfl, hk⟩; have H1 := Lib.hid (HS.out.keep hk); clear hk hl))
            have hX : PX G R w0 w1 B mb (.slice (some ⟨g, 0, none⟩) p.lm.length LC) c { p with sd := true, nt := s.nt } n b r s.ps (k + 2 * (m + 1)) := by rw [HKK.out]; exact H1.out.morek 2
            first | exact ⟨⟨_, m + 1, s, rfl, by simp, rfl, hlt, HXE.out, hX⟩, by simp [intOf]; omega⟩ | (go_roundw; (case rel => exact ⟨_, m + 1, s, rfl, by simp, rfl, hlt, HXE.out, hX⟩); (case measure => simp [intOf]; omega))
          have hd1 : decide (c.b ≤ a) = false := decide_eq_false hab
          have ea : IntKind.u64.wrap (a + 1) = a + 1 := IntWalk.u64_in _ (by have := HAB.out; omega)
          have HA2 : Hid (0 ≤ a ∧ a < c.b) := Lib.hid ⟨HAB.out.1, by omega⟩
          by_cases hz : p.nm.count (a + 1) = 0
          · have HXE : (⟨s.stay, (freeD c r s.nt s.ps a).1, (freeD c r s.nt s.ps a).2⟩ : SetD) = stL c r p.nm 0 ⟨0, p.nt, ps⟩ (p.lm.take (m + 1)) := by rw [HNX.out]; unfold stStep; rw [if_neg hab, if_pos hz]
            replace HXE := Lib.hid HXE
            have HZ : Hid (((p.nm.count (a + 1) : Nat) : Int) = 0) := Lib.hid (by omega)
            clear hab hz
            go_wp2_with (first
              | (go_at_call 70; ((with_reducible refine (cfgK_calls c _).mono ?_); rintro e w1 ⟨rfl, hk⟩; have H1 := Lib.hid (HS.out.keep hk); have hlk := ((show NMap mtU w1 mb n (cntF p.nm) from H1.out.pool.map).look mtU_fine (a := a + 1) (WalkArith.wf_u64 (by have := HA2.out; omega)) _ rfl).2; rw [cntF_get] at hlk; dsimp only [mtU] at hlk; have d5 := H1.out.pool.cells.nm; rw [HZ.out] at hlk; clear hk hl))
              | (go_at_call 72; ((with_reducible refine (H1.out.free HC.out a HA2.out ⟨HSB.out.1, by have := HSB.out.2.1; show s.nt ≤ 100000; omega⟩ (by have := HK.out; have := HLM.out; omega)).mono ?_); rintro e w2 ⟨rfl, h2⟩; have H2 := Lib.hid h2; clear h2)))
            have hX : PX G R w0 w2 B mb (.slice (some ⟨g, 0, none⟩) p.lm.length LC) c { p with sd := true, nt := (⟨s.stay, (freeD c r s.nt s.ps a).1, (freeD c r s.nt s.ps a).2⟩ : SetD).nt } n b r (⟨s.stay, (freeD c r s.nt s.ps a).1, (freeD c r s.nt s.ps a).2⟩ : SetD).ps (k + 2 * (m + 1)) := by rw [HKK.out]; exact H2.out
            first | exact ⟨⟨_, m + 1, ⟨s.stay, (freeD c r s.nt s.ps a).1, (freeD c r s.nt s.ps a).2⟩, rfl, by simp, rfl, hlt, HXE.out, hX⟩, by simp [intOf]; omega⟩ | (go_roundw; (case rel => exact ⟨_, m + 1, ⟨s.stay, (freeD c r s.nt s.ps a).1, (freeD c r s.nt s.ps a).2⟩, rfl, by simp, rfl, hlt, HXE.out, hX⟩); (case measure => simp [intOf]; omega))
          have hz' : (((p.nm.count (a + 1) : Nat) : Int) == 0) = false := by simp; exact fun h => hz (by omega)
          by_cases hsm : s.stay = m
          · have HXE : (⟨s.stay + 1, s.nt, s.ps⟩ : SetD) = stL c r p.nm 0 ⟨0, p.nt, ps⟩ (p.lm.take (m + 1)) := by rw [HNX.out]; unfold stStep; rw [if_neg hab, if_neg hz, if_pos hsm]
            replace HXE := Lib.hid HXE
            have hne : ((s.stay : Int) != (m : Int)) = false := by simp; omega
            clear hab hz hsm
            go_wp2_with (go_at_call 70; ((with_reducible refine (cfgK_calls c _).mono ?_); rintro e w1 ⟨rfl, hk⟩; have H1 := Lib.hid (HS.out.keep hk); have hlk := ((show NMap mtU w1 mb n (cntF p.nm) from H1.out.pool.map).look mtU_fine (a := a + 1) (WalkArith.wf_u64 (by have := HA2.out; omega)) _ rfl).2; rw [cntF_get] at hlk; dsimp only [mtU] at hlk; have d5 := H1.out.pool.cells.nm; clear hk hl))
            have hX : PX G R w0 w1 B mb (.slice (some ⟨g, 0, none⟩) p.lm.length LC) c { p with sd := true, nt := (⟨s.stay + 1, s.nt, s.ps⟩ : SetD).nt } n b r (⟨s.stay + 1, s.nt, s.ps⟩ : SetD).ps (k + 2 * (m + 1)) := by rw [HKK.out]; exact H1.out.morek 2
            first | exact ⟨⟨_, m + 1, _, rfl, by simp, by simp, hlt, HXE.out, hX⟩, by simp [intOf]; omega⟩ | (go_roundw; (case rel => exact ⟨_, m + 1, _, rfl, by simp, by simp, hlt, HXE.out, hX⟩); (case measure => simp [intOf]; omega))
          · have HXE : (⟨s.stay + 1, s.nt, putAt c r s.ps 15 (s.stay : Int) a⟩ : SetD) = stL c r p.nm 0 ⟨0, p.nt, ps⟩ (p.lm.take (m + 1)) := by rw [HNX.out]; unfold stStep; rw [if_neg hab, if_neg hz, if_neg hsm]
            replace HXE := Lib.hid HXE
            have hne : ((s.stay : Int) != (m : Int)) = true := by simp; omega
            clear hab hz hsm
            go_wp2_with (first
              | (go_at_call 70; ((with_reducible refine (cfgK_calls c _).mono ?_); rintro e w1 ⟨rfl, hk⟩; have H1 := Lib.hid (HS.out.keep hk); have hlk := ((show NMap mtU w1 mb n (cntF p.nm) from H1.out.pool.map).look mtU_fine (a := a + 1) (WalkArith.wf_u64 (by have := HA2.out; omega)) _ rfl).2; rw [cntF_get] at hlk; dsimp only [mtU] at hlk; have d5 := H1.out.pool.cells.nm; clear hk hl))
              | (go_at_call 73; ((with_reducible refine (H1.out.pput HC.out 15 _ _ (by have := HK.out; have := HLM.out; omega)).mono ?_); rintro e w2 ⟨rfl, h2⟩; have H2 := Lib.hid h2; clear h2)))
            have hX : PX G R w0 w2 B mb (.slice (some ⟨g, 0, none⟩) p.lm.length LC) c { p with sd := true, nt := (⟨s.stay + 1, s.nt, putAt c r s.ps 15 (s.stay : Int) a⟩ : SetD).nt } n b r (⟨s.stay + 1, s.nt, putAt c r s.ps 15 (s.stay : Int) a⟩ : SetD).ps (k + 2 * (m + 1)) := by rw [HKK.out]; exact H2.out.more1
            first | exact ⟨⟨_, m + 1, _, rfl, by simp, by simp, hlt, HXE.out, hX⟩, by simp [intOf]; omega⟩ | (go_roundw; (case rel => exact ⟨_, m + 1, _, rfl, by simp, by simp, hlt, HXE.out, hX⟩); (case measure => simp [intOf]; omega))
        · obtain rfl : m = p.lm.length := by omega
          have HS := Lib.hid hS
          have HSS := Lib.hid hs
          have b1' := hS.pool.cells.nl
          have g1' := Blk.frozen hS.pool.blk 33
          clear hS hs
          go_wp2_with fail
          go_end0
          have hX := HS.out.fld 33 (.int .i64 s.stay) (p' := { p with sd := true, nt := s.nt, nl := s.stay }) rfl rfl rfl
          rw [List.take_length] at HSS
          have hE := HE.out
          rw [← HSS.out] at hE
          rw [hE]
          exact ⟨rfl, hX⟩
  · have h1' : (p.st == 1) = false := by simpa using h1
    have h1'' : (p.st != 1) = true := by simpa using h1
    have HE : Hid (settleD c r p ps = (p, ps)) := Lib.hid (by unfold settleD; rw [if_pos (.inl h1)])
    clear h1
    go_enter Try.func28, Try.ntmps28
    go_wp2_with fail
    exact bodyPost_ret (v := .tuple #[]) (by simp [results, Try.results28, go_sem]) rfl ⟨rfl, by rw [HE.out]; exact HH.out.morek _⟩
end
end Go.Proofs.Ythjkodjpopcjaaa
