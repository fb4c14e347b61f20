/- Layer 10 (pool): goOn, Tell. -/
import Derived.Test.YthjkodjpopcjaaaPoA
namespace Go.Proofs.Ythjkodjpopcjaaa
open Go.RowKit Go.Maps
attribute [local go_sem ↓] loadMap_eq

def PoD.tell (c : CfgD) (p : PoD) (val seq : Int) : PoD :=
  if p.st ≠ 0 then p else if p.stage ≠ 0 ∧ p.seq < seq then { p with st := 2 }
  else if p.stage = 0 then ({ p with nm := p.nm ++ [val], nt := p.wt, nl := p.wl } : PoD).goOn c
  else if p.stage = 1 then ({ p with wt := min val c.b, nt := min val c.b, nl := p.wl } : PoD).goOn c
  else if p.stage = 2 then ({ p with wl := min val c.lim, nt := p.wt, nl := min val c.lim } : PoD).goOn c
  else if p.stage = 3 then ({ p with lm := p.lm ++ [val], nt := p.wt, nl := p.wl } : PoD).goOn c
  else ({ p with nt := p.wt, nl := p.wl } : PoD).goOn c
theorem Kept.put {B mb : Nat} {lv : Value} {a w : World} {i : Nat} (k : Kept (PF B mb lv) a w) (u : Value) : Kept (PF B mb lv) a (w.setCell ⟨B, i, none⟩ u) := k.setCell (.inl (.inl rfl)) u
theorem cfgK_calls (c : CfgD) (w : World) : Calls Try.prog 70 #[.agg (mapA c)] w fun e w' => e = .returned (.agg #[.int .i64 c.t, .int .i64 c.b, .int .i64 c.wr, .int .i64 c.f, .int .u64 c.first, .int .u64 c.last]) ∧ Kept (fun _ => False) w w' :=
  (cfg_calls c w).mono fun _ _ ⟨h1, h2⟩ => ⟨h1, keepB h2⟩
theorem limK_calls (c : CfgD) (h : c.Bd) (w : World) : Calls Try.prog 50 #[.agg (mapA c)] w fun e w' => e = .returned (.int .i64 c.lim) ∧ Kept (fun _ => False) w w' :=
  (limit_calls c (begX c) h w).mono fun _ _ ⟨h1, h2⟩ => ⟨h1, keepB h2⟩
theorem lim_bd {c : CfgD} (h : c.Bd) : 0 ≤ c.lim ∧ c.lim ≤ 100000 := by
  exact ⟨by have := h.l0; omega, by have := h.l1; omega⟩
theorem poC_of {w : World} {B mb : Nat} {lv : Value} {c : CfgD} {p : PoD} (h : Blk w B 130 (poA c p mb lv)) : PoC w B mb lv p :=
  ⟨h.cell 23, h.cell 24, h.cell 25, h.cell 26, h.cell 27, h.cell 28, h.cell 29, h.cell 30, h.cell 31, h.cell 32, h.cell 33⟩
/-- A number more stands in limbo. -/
theorem PoS.lmset {w w2 : World} {B mb : Nat} {lv lv1 : Value} {c : CfgD} {p : PoD} {n : Nat} {val : Int} {o : Obj} (h : PoS w B mb lv c p n) (hg : (w.alloc o).grownBy w2 lv.ownBlock)
    (ho : w2.ownsRow 0 22 1 lv1 (p.lm.length + 1) (u64L p.lm ++ [.int .u64 val])) :
    Blk w2 B 130 (poA c p mb lv) ∧ PoS (w2.setCell ⟨B, 28, none⟩ lv1) B mb lv1 c { p with lm := p.lm ++ [val] } n := by
  have k := Kept.grown hg
  have h' := h.keep ((Kept.refl (fun _ => False) w).alloc o)
  have hB := k.blk h'.blk (own_blk_ne h'.lim h'.blk (by decide))
  have hM := h'.map.kept k (h'.map.ne_own h'.lim)
  have K : Kept (fun k => k = B) w2 (w2.setCell ⟨B, 28, none⟩ lv1) := (Kept.refl _ w2).setAt lv1
  refine ⟨hB, hB.set_ 28 lv1, hM.kept K (hM.ne hB), ?_⟩
  rw [u64L_snoc, List.length_append]
  refine K.own ho ?_
  rintro x hx rfl
  exact own_blk_ne ho hB (by decide) hx.symm
theorem infoU64 : (Try.prog.info? 22).map (fun i => (i.zero, i.size, i.bytes)) = some (some (.int .u64 0), 1, 8) := by kernel_rfl
section
variable {w : World} {B mb : Nat} {lv : Value} {c : CfgD} {p : PoD} {n : Nat}
set_option maxRecDepth 100000 in
set_option maxHeartbeats 1000000 in
theorem goOnP_calls (h : PoS w B mb lv c p n) (h0 : 0 ≤ p.pos ∧ p.pos ≤ 100000) (hs : 0 ≤ p.stage ∧ p.stage ≤ 1000) :
    Calls Try.prog 71 #[.pointer (some ⟨B, 0, none⟩)] w fun e w' => e = .returned (.tuple #[]) ∧ PoS w' B mb lv c (p.goOn c) n ∧ Kept (fun x => x = B) w w' := by
  have e1 : IntKind.i64.wrap (p.pos + 1) = p.pos + 1 := IntWalk.i64_in _ (by omega)
  have e2 : IntKind.i64.wrap (p.stage + 1) = p.stage + 1 := IntWalk.i64_in _ (by omega)
  have c1 := h.cells.pos
  have f1 := Blk.frozen h.blk 25
  have h1 := (h.fld 25 (.int .i64 (p.pos + 1)) (p' := { p with pos := p.pos + 1 }) rfl rfl rfl).drewN 1
  have H1 : Hid (PoS (World.drew (w.setCell ⟨B, 25, none⟩ (.int .i64 (p.pos + 1)))) B mb lv c { p with pos := p.pos + 1 } n) := Lib.hid h1
  have HK1 : Hid (Kept (fun x => x = B) w (World.drew (w.setCell ⟨B, 25, none⟩ (.int .i64 (p.pos + 1))))) := Lib.hid (((Kept.refl _ w).setAt _).drew)
  have S0 := Lib.hid H1.out.cells.pos
  clear h h1 h0 hs
  by_cases hlt : p.pos + 1 < p.cells c
  · have hd : decide (p.pos + 1 < p.cells c) = true := decide_eq_true hlt
    have HE : Hid (p.goOn c = { p with pos := p.pos + 1 }) := Lib.hid (by unfold PoD.goOn; rw [if_pos hlt])
    have HQ : Hid (∃ q, p.cells c = q) := Lib.hid ⟨_, rfl⟩
    obtain ⟨q, hq⟩ := HQ.out
    rw [hq] at hd
    have HQ2 : Hid (({ p with pos := p.pos + 1 } : PoD).cells c = q) := Lib.hid hq
    clear hlt hq HQ
    go_enter Try.func71, Try.ntmps71
    go_wp2_with fail
    go_region_held3 (fun w' => w'.cell? ⟨B, 25, none⟩ = some (.int .i64 (p.pos + 1)))
      (with_reducible (first | exact S1.out | exact S0.out))
      ((go_at_call 92; ((with_reducible refine (cellsP_calls H1.out).mono ?_); rintro e w1 ⟨rfl, hk⟩; rw [HQ2.out]; have H2 := Lib.hid (H1.out.keep hk); have S1 := Lib.hid H2.out.cells.pos; have HK2 := Lib.hid (HK1.out.trans (hk.mono (fun _ _ h => h.elim))); clear hk)))
    go_wp2_with fail
    exact bodyPost_ret (v := .tuple #[]) (by simp [results, Try.results71, go_sem]) rfl ⟨rfl, by rw [HE.out]; exact H2.out, HK2.out⟩
  · have hd : decide (p.pos + 1 < p.cells c) = false := decide_eq_false hlt
    have HQ : Hid (∃ q, p.cells c = q) := Lib.hid ⟨_, rfl⟩
    obtain ⟨q, hq⟩ := HQ.out
    rw [hq] at hd
    have HQ2 : Hid (({ p with pos := p.pos + 1 } : PoD).cells c = q) := Lib.hid hq
    obtain ⟨r, hr⟩ : ∃ r, ({ p with stage := p.stage + 1, pos := 0 } : PoD).cells c = r := ⟨_, rfl⟩
    have HR := Lib.hid hr
    have HE : Hid (p.goOn c = if r = 0 then { p with stage := p.stage + 1, pos := 0, st := 1 } else { p with stage := p.stage + 1, pos := 0 }) := Lib.hid (by unfold PoD.goOn; rw [if_neg hlt, hr])
    clear hlt hq HQ hr
    by_cases hr0 : r = 0
    · have hz : (r == 0) = true := by simpa using hr0
      have HZ := Lib.hid hr0
      clear hr0
      go_enter Try.func71, Try.ntmps71
      go_wp2_with fail
      go_region_held3 (fun w' => w'.cell? ⟨B, 25, none⟩ = some (.int .i64 (p.pos + 1)))
        (with_reducible (first | exact S1.out | exact S0.out))
        ((go_at_call 92; ((with_reducible refine (cellsP_calls H1.out).mono ?_); rintro e w1 ⟨rfl, hk⟩; rw [HQ2.out]; have H2 := Lib.hid (H1.out.keep hk); have S1 := Lib.hid H2.out.cells.pos; have HK2 := Lib.hid (HK1.out.trans (hk.mono (fun _ _ h => h.elim))); clear hk)))
      have d1 := H2.out.cells.stage
      have g1 := Blk.frozen H2.out.blk 24
      have g2 := Blk.frozen H2.out.blk 25
      have H3 := Lib.hid ((H2.out.fld 24 (.int .i64 (p.stage + 1)) (p' := { p with stage := p.stage + 1, pos := p.pos + 1 }) rfl rfl rfl).fld 25 (.int .i64 0) (p' := { p with stage := p.stage + 1, pos := 0 }) rfl rfl rfl)
      go_wp2_with (go_at_call 92; ((with_reducible refine (cellsP_calls H3.out).mono ?_); rintro e w2 ⟨rfl, hk⟩; rw [HR.out]; have H4 := Lib.hid (H3.out.keep hk); have g3 := Blk.frozen H4.out.blk 26; have d3 := H4.out.cells.st; have HK4 := Lib.hid ((((HK2.out.setAt _).setAt _)).trans (hk.mono (fun _ _ h => h.elim))); clear hk))
      go_end0
      exact ⟨rfl, by rw [HE.out, if_pos HZ.out]; exact H4.out.fld 26 _ rfl rfl rfl, HK4.out.setAt _⟩
    · have hz : (r == 0) = false := by simpa using hr0
      have HZ := Lib.hid hr0
      clear hr0
      go_enter Try.func71, Try.ntmps71
      go_wp2_with fail
      go_region_held3 (fun w' => w'.cell? ⟨B, 25, none⟩ = some (.int .i64 (p.pos + 1)))
        (with_reducible (first | exact S1.out | exact S0.out))
        ((go_at_call 92; ((with_reducible refine (cellsP_calls H1.out).mono ?_); rintro e w1 ⟨rfl, hk⟩; rw [HQ2.out]; have H2 := Lib.hid (H1.out.keep hk); have S1 := Lib.hid H2.out.cells.pos; have HK2 := Lib.hid (HK1.out.trans (hk.mono (fun _ _ h => h.elim))); clear hk)))
      have d1 := H2.out.cells.stage
      have g1 := Blk.frozen H2.out.blk 24
      have g2 := Blk.frozen H2.out.blk 25
      have H3 := Lib.hid ((H2.out.fld 24 (.int .i64 (p.stage + 1)) (p' := { p with stage := p.stage + 1, pos := p.pos + 1 }) rfl rfl rfl).fld 25 (.int .i64 0) (p' := { p with stage := p.stage + 1, pos := 0 }) rfl rfl rfl)
      go_wp2_with (go_at_call 92; ((with_reducible refine (cellsP_calls H3.out).mono ?_); rintro e w2 ⟨rfl, hk⟩; rw [HR.out]; have H4 := Lib.hid (H3.out.keep hk); have HK4 := Lib.hid ((((HK2.out.setAt _).setAt _)).trans (hk.mono (fun _ _ h => h.elim))); clear hk))
      go_end0
      exact ⟨rfl, by rw [HE.out, if_neg HZ.out]; exact H4.out, HK4.out⟩
set_option maxRecDepth 100000 in
set_option maxHeartbeats 2000000 in
theorem tellP_calls (h : PoS w B mb lv c p n) (hc : c.Bd) (h0 : 0 ≤ p.pos ∧ p.pos ≤ 100000) (hs : 0 ≤ p.stage ∧ p.stage ≤ 1000) (hn : n < 1000000) (hnm : p.nm.length ≤ 100000) (hlm : p.lm.length ≤ 100000) (val seq : Int) (ok : Bool) (hv : 0 ≤ val ∧ val ≤ 18446744073709551615) :
    ∃ n', n' ≤ n + 1 ∧ Calls Try.prog 24 #[.pointer (some ⟨B, 0, none⟩), .agg #[.int .u64 val, .int .u64 seq, .bool ok]] w (PoT w B mb lv c (p.tell c val seq) n') := by
  have hA := h.keep ((Kept.refl _ w).alloc (.cells #[.int .u64 val, .int .u64 seq, .bool ok] 55))
  obtain ⟨a1, a2, a3, a4, a5, a6, a7, a8, a9, a10, a11⟩ := hA.cells
  have f26 := Blk.frozen hA.blk 26
  have HH := Lib.hid hA
  have HK : Hid (Kept (PF B mb lv) w (w.alloc (.cells #[.int .u64 val, .int .u64 seq, .bool ok] 55))) := Lib.hid ((Kept.refl _ w).alloc _)
  have HL := Lib.hid (fun x (hx : PF B mb lv x) => h.lt hx)
  have HB := Lib.hid (And.intro h0 hs)
  have HC := Lib.hid hc
  clear h hA
  by_cases h1 : p.st = 0
  · rw [h1] at a4
    by_cases hst : p.stage = 0
    · refine ⟨n + 1, Nat.le_refl _, ?_⟩
      have HE : Hid (p.tell c val seq = ({ p with nm := p.nm ++ [val], nt := p.wt, nl := p.wl } : PoD).goOn c) := Lib.hid (by unfold PoD.tell; rw [if_neg (by simp [h1]), if_neg (by simp [hst]), if_pos hst])
      rw [hst] at a2
      clear h1 hst
      go_enter Try.func24, Try.ntmps24
      go_wp2_with fail
      go_quiet (fail)
      have HN := Lib.hid (HH.out.drewN nq)
      have d1 := HN.out.cells.nm
      have hlk := (HN.out.map.look mtU_fine (a := val) (WalkArith.wf_u64 hv) _ rfl).2
      obtain ⟨w2, hup, hM2, hK2⟩ := HN.out.map.set mtU_fine (by unfold maxLen; omega) (a := val) (v := (p.nm.count val : Int) + 1) (WalkArith.wf_u64 hv) (WalkArith.wf_i64 (by have := List.count_le_length (a := val) (l := p.nm); omega))
      rw [cntF_get] at hlk
      dsimp only [mtU] at hlk hup
      have e1 : IntKind.i64.wrap ((p.nm.count val : Int) + 1) = (p.nm.count val : Int) + 1 := IntWalk.i64_in _ (by have := List.count_le_length (a := val) (l := p.nm); omega)
      rw [cntF_snoc] at hM2
      have hne := HN.out.map.ne HN.out.blk
      have h2 : PoS w2 B mb lv c { p with nm := p.nm ++ [val] } (n + 1) := ⟨hK2.blk HN.out.blk hne.symm, hM2, hK2.own HN.out.lim (fun x hx e => HN.out.map.ne_own HN.out.lim (by rw [hx, e]))⟩
      have b1 := h2.cells.wt
      have b2 := h2.cells.wl
      have g1 := Blk.frozen h2.blk 32
      have g2 := Blk.frozen h2.blk 33
      have b3 := h2.cells.nt
      have b4 := h2.cells.nl
      have H3 := Lib.hid ((h2.fld 32 (.int .i64 p.wt) (p' := { p with nm := p.nm ++ [val], nt := p.wt }) rfl rfl rfl).fld 33 (.int .i64 p.wl) (p' := { p with nm := p.nm ++ [val], nt := p.wt, nl := p.wl }) rfl rfl rfl)
      have HK2 := Lib.hid (((HK.out.drewN nq).trans (hK2.mono (fun x _ hx => (.inr (.inl hx) : PF B mb lv x)))))
      clear hM2 hK2 hne h2
      go_wp2_with (go_at_call 71; ((with_reducible refine (goOnP_calls H3.out HB.out.1 HB.out.2).mono ?_); rintro e w4 ⟨rfl, h4, k4⟩; have H4 := Lib.hid h4; have HK4 := Lib.hid k4; clear h4 k4))
      go_end0
      exact ⟨rfl, lv, by rw [HE.out]; exact H4.out, ((HK2.out.put _).put _).trans (PF.b HK4.out), fun x hx => .inl hx⟩
    have hst' : (p.stage == 0) = false := by simpa using hst
    have hst2 : (p.stage != 0) = true := by simpa using hst
    by_cases hsq : p.seq < seq
    · refine ⟨n, Nat.le_succ _, ?_⟩
      have HE : Hid (p.tell c val seq = { p with st := 2 }) := Lib.hid (by unfold PoD.tell; rw [if_neg (by simp [h1]), if_pos ⟨hst, hsq⟩])
      clear h1 hst
      go_enter Try.func24, Try.ntmps24
      go_wp2_with fail
      go_quiet (fail)
      go_wp2_with fail
      exact bodyPost_ret (v := .tuple #[]) (by simp [results, Try.results24, go_sem]) rfl ⟨rfl, lv, by rw [HE.out]; exact (HH.out.drewN nq).fld 26 _ rfl rfl rfl, (HK.out.drewN nq).put _, fun x hx => .inl hx⟩
    have hnt : ¬ (p.stage ≠ 0 ∧ p.seq < seq) := fun h => hsq h.2
    by_cases hs1 : p.stage = 1
    · refine ⟨n, Nat.le_succ _, ?_⟩
      have HE : Hid (p.tell c val seq = ({ p with wt := min val c.b, nt := min val c.b, nl := p.wl } : PoD).goOn c) := Lib.hid (by unfold PoD.tell; rw [if_neg (by simp [h1]), if_neg hnt, if_neg hst, if_pos hs1])
      rw [hs1] at a2
      have hf := fld_cfg_b c
      clear h1 hst hs1 hnt hst' hst2
      go_enter Try.func24, Try.ntmps24
      go_wp2_with fail
      go_quiet (fail)
      have HN := Lib.hid (HH.out.drewN nq)
      have hl := HN.out.ldm
      go_wp2_with (first
        | (go_at_call 70; ((with_reducible refine (cfgK_calls c _).mono ?_); rintro e w2 ⟨rfl, hk⟩; have H2 := Lib.hid (HN.out.keep hk); have HK2 := Lib.hid ((HK.out.drewN nq).trans (hk.mono (fun _ _ h => h.elim))); have b1 := H2.out.cells.wt; have b2 := H2.out.cells.wl; have b3 := H2.out.cells.nt; have b4 := H2.out.cells.nl; have g0 := Blk.frozen H2.out.blk 30; have g1 := Blk.frozen H2.out.blk 32; have g2 := Blk.frozen H2.out.blk 33; have H3 := Lib.hid (((H2.out.fld 30 (.int .i64 (min val c.b)) (p' := { p with wt := min val c.b }) rfl rfl rfl).fld 32 (.int .i64 (min val c.b)) (p' := { p with wt := min val c.b, nt := min val c.b }) rfl rfl rfl).fld 33 (.int .i64 p.wl) (p' := { p with wt := min val c.b, nt := min val c.b, nl := p.wl }) rfl rfl rfl); clear hk hl))
        | (go_at_call 69; ((with_reducible refine (atMost_calls val c.b hv ⟨by have := HC.out.b1; omega, by have := HC.out.b64; omega⟩ _).mono ?_); rintro e w3 ⟨rfl, rfl⟩))
        | (go_at_call 71; ((with_reducible refine (goOnP_calls H3.out HB.out.1 HB.out.2).mono ?_); rintro e w4 ⟨rfl, h4, k4⟩; have H4 := Lib.hid h4; have HK4 := Lib.hid k4; clear h4 k4)))
      go_end0
      exact ⟨rfl, lv, by rw [HE.out]; exact H4.out, (((HK2.out.put _).put _).put _).trans (PF.b HK4.out), fun x hx => .inl hx⟩
    have hs1' : (p.stage == 1) = false := by simpa using hs1
    by_cases hs2 : p.stage = 2
    · refine ⟨n, Nat.le_succ _, ?_⟩
      have HE : Hid (p.tell c val seq = ({ p with wl := min val c.lim, nt := p.wt, nl := min val c.lim } : PoD).goOn c) := Lib.hid (by unfold PoD.tell; rw [if_neg (by simp [h1]), if_neg hnt, if_neg hst, if_neg hs1, if_pos hs2])
      rw [hs2] at a2
      clear h1 hst hs1 hs2 hnt hst' hst2 hs1'
      go_enter Try.func24, Try.ntmps24
      go_wp2_with fail
      go_quiet (fail)
      have HN := Lib.hid (HH.out.drewN nq)
      have hl := HN.out.ldm
      go_wp2_with (first
        | (go_at_call 50; ((with_reducible refine (limK_calls c HC.out _).mono ?_); rintro e w2 ⟨rfl, hk⟩; have H2 := Lib.hid (HN.out.keep hk); have HK2 := Lib.hid ((HK.out.drewN nq).trans (hk.mono (fun _ _ h => h.elim))); have b1 := H2.out.cells.wt; have b2 := H2.out.cells.wl; have b3 := H2.out.cells.nt; have b4 := H2.out.cells.nl; have g0 := Blk.frozen H2.out.blk 31; have g1 := Blk.frozen H2.out.blk 32; have g2 := Blk.frozen H2.out.blk 33; have H3 := Lib.hid (((H2.out.fld 31 (.int .i64 (min val c.lim)) (p' := { p with wl := min val c.lim }) rfl rfl rfl).fld 32 (.int .i64 p.wt) (p' := { p with wl := min val c.lim, nt := p.wt }) rfl rfl rfl).fld 33 (.int .i64 (min val c.lim)) (p' := { p with wl := min val c.lim, nt := p.wt, nl := min val c.lim }) rfl rfl rfl); clear hk hl))
        | (go_at_call 69; ((with_reducible refine (atMost_calls val c.lim hv (lim_bd HC.out) _).mono ?_); rintro e w3 ⟨rfl, rfl⟩))
        | (go_at_call 71; ((with_reducible refine (goOnP_calls H3.out HB.out.1 HB.out.2).mono ?_); rintro e w4 ⟨rfl, h4, k4⟩; have H4 := Lib.hid h4; have HK4 := Lib.hid k4; clear h4 k4)))
      go_end0
      exact ⟨rfl, lv, by rw [HE.out]; exact H4.out, (((HK2.out.put _).put _).put _).trans (PF.b HK4.out), fun x hx => .inl hx⟩
    have hs2' : (p.stage == 2) = false := by simpa using hs2
    by_cases hs3 : p.stage = 3
    · refine ⟨n, Nat.le_succ _, ?_⟩
      have HE : Hid (p.tell c val seq = ({ p with lm := p.lm ++ [val], nt := p.wt, nl := p.wl } : PoD).goOn c) := Lib.hid (by unfold PoD.tell; rw [if_neg (by simp [h1]), if_neg hnt, if_neg hst, if_neg hs1, if_neg hs2, if_pos hs3])
      rw [hs3] at a2
      obtain ⟨i0, hi0, hz0, hz1, hz2⟩ := info_parts' infoU64
      clear h1 hst hs1 hs2 hs3 hnt hst' hst2 hs1' hs2'
      go_enter Try.func24, Try.ntmps24
      go_wp2_with fail
      go_quiet (fail)
      have HN := Lib.hid (HH.out.drewN nq)
      have d1 := HN.out.cells.lm
      go_wp2_with (at_builtin; refine wpList_append_own_at _ rfl (.tmp 77) (.tmp 79) 63 rfl 0 22 i0 _ 1 8 Try.underlying63 hi0 hz0 hz1 hz2 rfl (by decide) lv p.lm.length (u64L p.lm) rfl (HN.out.lim.alloc _) ⟨w.heap.size + 1, 0, none⟩ 1 1 [.int .u64 val] rfl rfl (news_at _ #[.int .u64 val] _ _ (by simp)) (by simp [Value.oneCell']) (by unfold maxLen; omega) (by omega) (Nat.zero_le _) ?_; intro lv1 w2 hown1 hgrow _ hat; obtain ⟨VA1, VC1, rfl⟩ := own_form hown1; have H2 := Lib.hid (HN.out.lmset hgrow hown1); have HC2 := Lib.hid (poC_of H2.out.1); have b1 := HC2.out.wt; have b2 := HC2.out.wl; have b3 := HC2.out.nt; have b4 := HC2.out.nl; have b5 := HC2.out.lm; have g0 := Blk.frozen H2.out.1 28; have g1 := Blk.frozen H2.out.1 32; have g2 := Blk.frozen H2.out.1 33; have HAT := Lib.hid hat; have HK2 := Lib.hid (((HK.out.drewN nq).alloc (.cells #[.int .u64 val] 22)).trans ((Kept.grown hgrow).mono (fun x _ hx => (.inr (.inr hx.symm) : PF B mb lv x)))); have H3 := Lib.hid ((H2.out.2.fld 32 (.int .i64 p.wt) (p' := { p with lm := p.lm ++ [val], nt := p.wt }) rfl rfl rfl).fld 33 (.int .i64 p.wl) (p' := { p with lm := p.lm ++ [val], nt := p.wt, nl := p.wl }) rfl rfl rfl); clear hown1 hgrow hat)
      go_wp2_with (go_at_call 71; ((with_reducible refine (goOnP_calls H3.out HB.out.1 HB.out.2).mono ?_); rintro e w4 ⟨rfl, h4, k4⟩; have H4 := Lib.hid h4; have HK4 := Lib.hid k4; clear h4 k4))
      go_end0
      refine ⟨rfl, _, by rw [HE.out]; exact H4.out, (((HK2.out.put _).put _).put _).trans (PF.b HK4.out), fun x hx => ?_⟩
      rcases HAT.out with e | e <;> rw [e] at hx
      · exact .inl hx
      · refine .inr ?_
        injection hx with hx
        simp at hx
        omega
    · refine ⟨n, Nat.le_succ _, ?_⟩
      have hs3' : (p.stage == 3) = false := by simpa using hs3
      have HE : Hid (p.tell c val seq = ({ p with nt := p.wt, nl := p.wl } : PoD).goOn c) := Lib.hid (by unfold PoD.tell; rw [if_neg (by simp [h1]), if_neg hnt, if_neg hst, if_neg hs1, if_neg hs2, if_neg hs3])
      clear h1 hst hs1 hs2 hs3 hnt
      go_enter Try.func24, Try.ntmps24
      go_wp2_with fail
      go_quiet (fail)
      have HN := Lib.hid (HH.out.drewN nq)
      have b1 := HN.out.cells.wt
      have b2 := HN.out.cells.wl
      have b3 := HN.out.cells.nt
      have b4 := HN.out.cells.nl
      have b5 := HN.out.cells.stage
      have g1 := Blk.frozen HN.out.blk 32
      have g2 := Blk.frozen HN.out.blk 33
      have HK2 := Lib.hid (HK.out.drewN nq)
      have H3 := Lib.hid ((HN.out.fld 32 (.int .i64 p.wt) (p' := { p with nt := p.wt }) rfl rfl rfl).fld 33 (.int .i64 p.wl) (p' := { p with nt := p.wt, nl := p.wl }) rfl rfl rfl)
      go_wp2_with (go_at_call 71; ((with_reducible refine (goOnP_calls H3.out HB.out.1 HB.out.2).mono ?_); rintro e w4 ⟨rfl, h4, k4⟩; have H4 := Lib.hid h4; have HK4 := Lib.hid k4; clear h4 k4))
      go_end0
      exact ⟨rfl, lv, by rw [HE.out]; exact H4.out, ((HK2.out.put _).put _).trans (PF.b HK4.out), fun x hx => .inl hx⟩
  · refine ⟨n, Nat.le_succ _, ?_⟩
    have HE : Hid (p.tell c val seq = p) := Lib.hid (by unfold PoD.tell; rw [if_pos h1])
    have h1' : (p.st == 0) = false := by simpa using h1
    clear h1
    go_enter Try.func24, Try.ntmps24
    go_wp2_with fail
    go_end0
    exact ⟨rfl, lv, by rw [HE.out]; exact HH.out, HK.out, fun x hx => .inl hx⟩
end
end Go.Proofs.Ythjkodjpopcjaaa
