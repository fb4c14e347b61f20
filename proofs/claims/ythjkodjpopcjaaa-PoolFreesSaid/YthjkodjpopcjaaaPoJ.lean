/- Law 10's read. -/
import Derived.Test.YthjkodjpopcjaaaPoI
namespace Go.Proofs.Ythjkodjpopcjaaa
open Go.RowKit Go.Maps
attribute [local go_sem ↓] loadMap_eq

/-- What a pool is on its way: j replies were told. -/
structure PoD.Fine (c : CfgD) (p : PoD) (j : Nat) : Prop where
  stage : 0 ≤ p.stage ∧ p.stage ≤ 4
  pos : 0 ≤ p.pos ∧ p.pos ≤ j
  going : p.st = 0 → p.stage ≤ 3
  nm : p.nm.length ≤ j
  lm : p.lm.length ≤ j
  lme : ∀ a ∈ p.lm, 0 ≤ a ∧ a ≤ 18446744073709551615
  top : 0 ≤ p.wt ∧ p.wt ≤ c.b
  lim : 0 ≤ p.wl ∧ p.wl ≤ c.lim
  nt : 0 ≤ p.nt ∧ p.nt ≤ c.b
  nl : 0 ≤ p.nl ∧ p.nl ≤ c.lim
def p0 (seq : Int) : PoD := ⟨seq, 0, 0, 0, [], [], false, 0, 0, 0, 0⟩
theorem p0_fine {c : CfgD} (h : c.Bd) (seq : Int) : (p0 seq).Fine c 0 := by
  have := h.b1
  have := h.l0
  exact ⟨by simp [p0], by simp [p0], fun _ => by simp [p0], by simp [p0], by simp [p0], by simp [p0], by simp [p0]; omega, by simp [p0]; omega, by simp [p0]; omega, by simp [p0]; omega⟩
theorem goOn_nm (c : CfgD) (p : PoD) (l : List Int) : ({ p with nm := l } : PoD).goOn c = { p.goOn c with nm := l } := by
  by_cases h : p.pos + 1 < p.cells c
  · have e : p.goOn c = { p with pos := p.pos + 1 } := by unfold PoD.goOn; rw [if_pos h]
    have e2 : ({ p with nm := l } : PoD).goOn c = { p with nm := l, pos := p.pos + 1 } := by unfold PoD.goOn; exact if_pos h
    rw [e, e2]
  · by_cases h2 : ({ p with stage := p.stage + 1, pos := 0 } : PoD).cells c = 0
    · have e : p.goOn c = { p with stage := p.stage + 1, pos := 0, st := 1 } := by unfold PoD.goOn; rw [if_neg h, if_pos h2]
      have e2 : ({ p with nm := l } : PoD).goOn c = { p with nm := l, stage := p.stage + 1, pos := 0, st := 1 } := by unfold PoD.goOn; exact (if_neg h).trans (if_pos h2)
      rw [e, e2]
    · have e : p.goOn c = { p with stage := p.stage + 1, pos := 0 } := by unfold PoD.goOn; rw [if_neg h, if_neg h2]
      have e2 : ({ p with nm := l } : PoD).goOn c = { p with nm := l, stage := p.stage + 1, pos := 0 } := by unfold PoD.goOn; exact (if_neg h).trans (if_neg h2)
      rw [e, e2]
theorem goOn_lm (c : CfgD) (p : PoD) (l : List Int) : ({ p with lm := l } : PoD).goOn c = { p.goOn c with lm := l } := by
  by_cases h : p.pos + 1 < p.cells c
  · have e : p.goOn c = { p with pos := p.pos + 1 } := by unfold PoD.goOn; rw [if_pos h]
    have e2 : ({ p with lm := l } : PoD).goOn c = { p with lm := l, pos := p.pos + 1 } := by unfold PoD.goOn; exact if_pos h
    rw [e, e2]
  · by_cases h2 : ({ p with stage := p.stage + 1, pos := 0 } : PoD).cells c = 0
    · have e : p.goOn c = { p with stage := p.stage + 1, pos := 0, st := 1 } := by unfold PoD.goOn; rw [if_neg h, if_pos h2]
      have e2 : ({ p with lm := l } : PoD).goOn c = { p with lm := l, stage := p.stage + 1, pos := 0, st := 1 } := by unfold PoD.goOn; exact (if_neg h).trans (if_pos h2)
      rw [e, e2]
    · have e : p.goOn c = { p with stage := p.stage + 1, pos := 0 } := by unfold PoD.goOn; rw [if_neg h, if_neg h2]
      have e2 : ({ p with lm := l } : PoD).goOn c = { p with lm := l, stage := p.stage + 1, pos := 0 } := by unfold PoD.goOn; exact (if_neg h).trans (if_neg h2)
      rw [e, e2]
theorem goOn_fine {c : CfgD} {p : PoD} {j : Nat} (h : p.Fine c j) (h0 : p.st = 0) : (p.goOn c).Fine c (j + 1) := by
  obtain ⟨⟨s0, s1⟩, ⟨q0, q1⟩, hg, hn, hl, he, ht, hw, hnt, hnl⟩ := h
  have hs3 := hg h0
  unfold PoD.goOn
  split
  · exact ⟨⟨s0, s1⟩, ⟨by simp only; omega, by simp only; omega⟩, fun h => hs3, Nat.le_succ_of_le hn, Nat.le_succ_of_le hl, he, ht, hw, hnt, hnl⟩
  · split
    · exact ⟨⟨by simp only; omega, by simp only; omega⟩, ⟨Int.le_refl _, by simp only; omega⟩, fun h => by simp at h, Nat.le_succ_of_le hn, Nat.le_succ_of_le hl, he, ht, hw, hnt, hnl⟩
    · rename_i hc
      refine ⟨⟨by simp only; omega, by simp only; omega⟩, ⟨Int.le_refl _, by simp only; omega⟩, fun _ => ?_, Nat.le_succ_of_le hn, Nat.le_succ_of_le hl, he, ht, hw, hnt, hnl⟩
      by_cases h4 : p.stage = 3
      · exfalso
        apply hc
        unfold PoD.cells
        simp [h4]
      · simp only; omega
theorem tell_fine {c : CfgD} (hc : c.Bd) {p : PoD} {j : Nat} (h : p.Fine c j) (val seq : Int) (hv : 0 ≤ val ∧ val ≤ 18446744073709551615) : (p.tell c val seq).Fine c (j + 1) := by
  have b1 := hc.b1
  have l0 := hc.l0
  have up : p.Fine c (j + 1) := ⟨h.stage, ⟨h.pos.1, by have := h.pos.2; omega⟩, h.going, Nat.le_succ_of_le h.nm, Nat.le_succ_of_le h.lm, h.lme, h.top, h.lim, h.nt, h.nl⟩
  unfold PoD.tell
  by_cases h0 : p.st = 0
  · rw [if_neg (by simp [h0])]
    by_cases h1 : p.stage ≠ 0 ∧ p.seq < seq
    · rw [if_pos h1]
      exact ⟨up.stage, up.pos, fun h => by simp at h, up.nm, up.lm, up.lme, up.top, up.lim, up.nt, up.nl⟩
    · rw [if_neg h1]
      have hp := h.pos
      have hnm := h.nm
      have hlm := h.lm
      have gl : ∀ q : PoD, q.Fine c j → q.st = 0 → (q.goOn c).Fine c (j + 1) := fun q hq h0 => goOn_fine hq h0
      have m1 : 0 ≤ min val c.b ∧ min val c.b ≤ c.b := by omega
      have m2 : 0 ≤ min val c.lim ∧ min val c.lim ≤ c.lim := by omega
      split
      · rename_i hs
        have q : ({ p with nt := p.wt, nl := p.wl } : PoD).Fine c j := ⟨h.stage, h.pos, h.going, h.nm, h.lm, h.lme, h.top, h.lim, h.top, h.lim⟩
        have r := goOn_fine q h0
        have e : (({ p with nm := p.nm ++ [val], nt := p.wt, nl := p.wl } : PoD).goOn c) = { (({ p with nt := p.wt, nl := p.wl } : PoD).goOn c) with nm := p.nm ++ [val] } := by
          exact goOn_nm c { p with nt := p.wt, nl := p.wl } (p.nm ++ [val])
        rw [e]
        exact ⟨r.stage, r.pos, r.going, by rw [List.length_append]; simp; omega, r.lm, r.lme, r.top, r.lim, r.nt, r.nl⟩
      · split
        · exact gl _ ⟨h.stage, h.pos, h.going, h.nm, h.lm, h.lme, m1, h.lim, m1, h.lim⟩ h0
        · split
          · exact gl _ ⟨h.stage, h.pos, h.going, h.nm, h.lm, h.lme, h.top, m2, h.top, m2⟩ h0
          · split
            · have q : ({ p with nt := p.wt, nl := p.wl } : PoD).Fine c j := ⟨h.stage, h.pos, h.going, h.nm, h.lm, h.lme, h.top, h.lim, h.top, h.lim⟩
              have r := goOn_fine q h0
              have e : (({ p with lm := p.lm ++ [val], nt := p.wt, nl := p.wl } : PoD).goOn c) = { (({ p with nt := p.wt, nl := p.wl } : PoD).goOn c) with lm := p.lm ++ [val] } := by
                exact goOn_lm c { p with nt := p.wt, nl := p.wl } (p.lm ++ [val])
              rw [e]
              exact ⟨r.stage, r.pos, r.going, r.nm, by rw [List.length_append]; simp; omega, fun a ha => by
                rcases List.mem_append.1 ha with ha | ha
                · exact h.lme a ha
                · simp at ha; subst ha; exact hv, r.top, r.lim, r.nt, r.nl⟩
            · exact gl _ ⟨h.stage, h.pos, h.going, h.nm, h.lm, h.lme, h.top, h.lim, h.top, h.lim⟩ h0
  · rw [if_pos h0]
    exact up
def PoD.tells (c : CfgD) (p : PoD) (l : List OutD) : PoD := l.foldl (fun p o => p.tell c o.val o.seq) p
def readG (c : CfgD) : PoD → List OutD → Nat → PoD × Nat
  | p, [], k => (p, k)
  | p, o :: l, k => if p.st ≠ 0 then (p, k) else readG c (p.tell c o.val o.seq) l (k + 1)
theorem readG_next {c : CfgD} {p : PoD} {L : List OutD} {k : Nat} {o : OutD} (h : L[k]? = some o) (h0 : p.st = 0) : readG c p (L.drop k) k = readG c (p.tell c o.val o.seq) (L.drop (k + 1)) (k + 1) := by
  obtain ⟨hk, rfl⟩ := List.getElem?_eq_some_iff.1 h
  rw [List.drop_eq_getElem_cons hk]
  show (if p.st ≠ 0 then _ else _) = _
  rw [if_neg (by simp [h0])]
theorem readG_stop {c : CfgD} {p : PoD} {L : List OutD} {k : Nat} (h : p.st ≠ 0 ∨ L.length ≤ k) : readG c p (L.drop k) k = (p, k) := by
  by_cases hk : L.length ≤ k
  · rw [List.drop_eq_nil_of_le hk]; rfl
  · rw [List.drop_eq_getElem_cons (by omega)]
    show (if p.st ≠ 0 then _ else _) = _
    rw [if_pos (h.resolve_right hk)]
theorem PoD.Fine.up {c : CfgD} {p : PoD} {j k : Nat} (h : p.Fine c j) (hk : j ≤ k) : p.Fine c k := ⟨h.stage, ⟨h.pos.1, by have := h.pos.2; omega⟩, h.going, Nat.le_trans h.nm hk, Nat.le_trans h.lm hk, h.lme, h.top, h.lim, h.nt, h.nl⟩
theorem askP10 {w : World} {B mb n : Nat} {lv : Value} {c : CfgD} {p : PoD} (h : PoS w B mb lv c p n) (hc : c.Bd) (hs : p.st = 0 → 0 ≤ p.stage ∧ p.stage ≤ 3) {k q ov os nv ns : Int} {b : Bool} (he : p.ask c = (⟨k, q, ov, os, nv, ns⟩, b)) :
    Calls Try.prog 21 #[.pointer (some ⟨B, 0, none⟩)] w fun e w1 =>
      e = .returned (.tuple #[.agg #[.int .i64 k, .int .i64 q, .int .u64 ov, .int .u64 os, .int .u64 nv, .int .u64 ns], .bool b]) ∧ Kept (fun _ => False) w w1 :=
  (askP_calls h hc hs).mono fun _ _ ⟨h1, h2⟩ => ⟨by rw [h1, he]; rfl, h2⟩
/-- The loop over replies. -/
def RdRel (w : World) (c : CfgD) (B mb : Nat) (seq : Int) (L : List OutD) (i : Value) (wr : World) : Prop :=
  ∃ (W : World) (k n : Nat) (p : PoD) (lv : Value), W = wr ∧ i = .int .i64 k ∧ k ≤ L.length ∧ n ≤ k ∧ p.Fine c k ∧ readG c (p0 seq) L 0 = readG c p (L.drop k) k ∧ PoS W B mb lv c p n ∧ Kept (fun _ => False) w W ∧ ∀ x, PF B mb lv x → w.heap.size ≤ x
/-- A pool that was read. -/
def ReadR (w : World) (c : CfgD) (r : PoD × Nat) (m : Nat) (e : Ending) (w' : World) : Prop :=
  ∃ (B mb n : Nat) (lv : Value), e = .returned (.tuple #[.pointer (some ⟨B, 0, none⟩), .int .i64 r.2]) ∧ PoS w' B mb lv c r.1 n ∧ n ≤ m ∧ r.1.Fine c m ∧ Kept (fun _ => False) w w' ∧ ∀ x, PF B mb lv x → w.heap.size ≤ x
theorem poT_turn {w W w' : World} {B mb n' : Nat} {lv : Value} {c : CfgD} {p' : PoD} {e : Ending} (h : PoT W B mb lv c p' n' e w') (hk : Kept (fun _ => False) w W) (ho : ∀ x, PF B mb lv x → w.heap.size ≤ x) :
    e = .returned (.tuple #[]) ∧ ∃ lv', PoS w' B mb lv' c p' n' ∧ Kept (fun _ => False) w w' ∧ ∀ x, PF B mb lv' x → w.heap.size ≤ x := by
  obtain ⟨he, lv', h1, h2, h3⟩ := h
  refine ⟨he, lv', h1, hk.trans' h2 (fun x hx hp => by have := ho x hp; omega), fun x hx => ?_⟩
  rcases hx with rfl | rfl | hx
  · exact ho _ (.inl rfl)
  · exact ho _ (.inr (.inl rfl))
  · rcases h3 x hx with h | h
    · exact ho x (.inr (.inr h))
    · have := hk.size; omega
set_option maxRecDepth 100000 in
set_option maxHeartbeats 4000000 in
theorem read_calls {w : World} {A : Option Addr} {m cp : Nat} (c : CfgD) (hc : c.Bd) (seq : Int) {L : List OutD} (hL : L.length = m) (hm : m ≤ 1000) (hs : SlAt w A 3 (L.map OutD.cells)) (hw : ∀ o ∈ L, 0 ≤ o.val ∧ o.val ≤ 18446744073709551615) :
    Calls Try.prog 25 #[.agg (mapA c), .int .u64 seq, .slice A m cp] w (ReadR w c (readG c (p0 seq) L 0) m) := by
  have HS := Lib.hid hs
  have HL := Lib.hid hL
  have HC := Lib.hid hc
  have HW := Lib.hid hw
  have hl := loadMap_arr (Blk.new w 31 (mapA c)) rfl
  clear hs hL hc hw
  go_enter Try.func25, Try.ntmps25
  go_wp2_with (go_at_call 20; ((with_reducible refine (newP_calls c seq _).mono ?_); rintro e w1 ⟨B, mb, rfl, h1, k1, o1, o2⟩; have H1 := Lib.hid h1; have HK1 := Lib.hid (((Kept.refl (fun _ => False) w).alloc (.cells (mapA c) 31)).trans k1); have HO := Lib.hid (And.intro o1 o2); clear h1 k1 o1 o2 hl))
  go_loopw [18] (fun i wr => RdRel w c B mb seq L i wr) (fun i _ => m - (intOf i).toNat)
  case atStart => exact ⟨_, 0, 0, p0 seq, _, rfl, rfl, Nat.zero_le _, Nat.le_refl _, p0_fine HC.out seq, rfl, H1.out, HK1.out, fun x hx => by
    have h := HO.out
    simp at h
    rcases hx with rfl | rfl | hx
    · omega
    · omega
    · simp [Value.ownBlock] at hx⟩
  case round =>
    obtain ⟨Wa, k, nn, p, lv, rfl, rfl, hk, hnk, hF, hG, hP, hK, ho⟩ := hrel
    have HG := Lib.hid hG
    have HF := Lib.hid hF
    have HKa := Lib.hid hK
    have HOa := Lib.hid ho
    have HNK := Lib.hid hnk
    by_cases hlt : k < m
    · obtain ⟨o, he⟩ : ∃ o, L[k]? = some o := ⟨_, List.getElem?_eq_getElem (by rw [HL.out]; exact hlt)⟩
      obtain ⟨gq, go, eA, hgb, hc⟩ := (HS.out.kept hK) (by rw [List.length_map, HL.out]; omega)
      subst eA
      have hcell := hc k o.cells (by rw [List.getElem?_map, he]; rfl)
      have c0 : Wa.cell? ⟨gq, go + k * 3, none⟩ = some (.int .u64 o.val) := hcell 0 _ rfl
      have c1 : Wa.cell? ⟨gq, go + k * 3 + 1, none⟩ = some (.int .u64 o.seq) := hcell 1 _ rfl
      have c2 : Wa.cell? ⟨gq, go + k * 3 + 2, none⟩ = some (.bool o.ok) := hcell 2 _ rfl
      have HWo := Lib.hid (HW.out o (List.mem_of_getElem? he))
      have HEo := Lib.hid he
      have hB1 : Blk (Wa.alloc (.cells #[.int .u64 o.val, .int .u64 o.seq, .bool o.ok] 55)) Wa.heap.size 55 #[.int .u64 o.val, .int .u64 o.seq, .bool o.ok] := Blk.new _ _ _
      have HB1 := Lib.hid hB1
      have HP := Lib.hid (hP.keep ((Kept.refl _ _).alloc (.cells #[.int .u64 o.val, .int .u64 o.seq, .bool o.ok] 55)))
      have HKb := Lib.hid (hK.alloc (.cells #[.int .u64 o.val, .int .u64 o.seq, .bool o.ok] 55))
      have hd : decide ((k : Int) < m) = true := decide_eq_true (by omega)
      obtain ⟨ak, ap, aov, aos, anv, ans, b, hask⟩ : ∃ ak ap aov aos anv ans b, p.ask c = (⟨ak, ap, aov, aos, anv, ans⟩, b) := by
        obtain ⟨⟨ak, ap, aov, aos, anv, ans⟩, b⟩ := p.ask c
        exact ⟨ak, ap, aov, aos, anv, ans, b, rfl⟩
      have HASK := Lib.hid hask
      by_cases h0 : p.st = 0
      · obtain rfl : b = true := by
          have := congrArg Prod.snd hask
          unfold PoD.ask at this
          rw [if_neg (by simp [h0])] at this
          exact this.symm
        have HNX := Lib.hid (hG.trans (readG_next he h0))
        have HFN := Lib.hid (tell_fine HC.out hF o.val o.seq HWo.out)
        clear hP hK ho hG hF hnk he hc hcell hB1 hask h0 hgb
        go_wp2_with (first
          | (go_at_call 21; ((with_reducible refine (askP10 HP.out HC.out (fun h => ⟨HF.out.stage.1, HF.out.going h⟩) HASK.out).mono ?_); rintro e w2 ⟨rfl, hk2⟩; have H2 := Lib.hid ((HP.out.keep hk2).keep ((Kept.refl _ _).alloc (.cells #[.int .i64 ak, .int .i64 ap, .int .u64 aov, .int .u64 aos, .int .u64 anv, .int .u64 ans] 43))); have HB2 := (hk2.blk HB1.out (fun h => h)).alloc (.cells #[.int .i64 ak, .int .i64 ap, .int .u64 aov, .int .u64 aos, .int .u64 anv, .int .u64 ans] 43); have q0 := HB2.cell 0; have q1 := HB2.cell 1; have q2 := HB2.cell 2; have HK2 := Lib.hid ((HKb.out.trans hk2).alloc (.cells #[.int .i64 ak, .int .i64 ap, .int .u64 aov, .int .u64 aos, .int .u64 anv, .int .u64 ans] 43)); obtain ⟨n', hn', hT⟩ := tellP_calls H2.out HC.out ⟨HF.out.pos.1, by have := HF.out.pos.2; omega⟩ ⟨HF.out.stage.1, by have := HF.out.stage.2; omega⟩ (by have := HNK.out; omega) (by have := HF.out.nm; omega) (by have := HF.out.lm; omega) o.val o.seq o.ok HWo.out; have HT := Lib.hid hT; have HN' := Lib.hid hn'; clear hk2 hT hn' HB2))
          | (go_at_call 24; ((refine HT.out.mono ?_); rintro e w3 hT3; obtain ⟨rfl, lv3, h3, k3, o3⟩ := poT_turn hT3 HK2.out HOa.out; have H3 := Lib.hid h3; have HK3 := Lib.hid k3; have HO3 := Lib.hid o3; clear hT3 h3 k3 o3)))
        first | exact ⟨⟨_, k + 1, n', _, lv3, rfl, by simp, by rw [HL.out]; exact hlt, by have := HN'.out; have := HNK.out; omega, HFN.out, HNX.out, H3.out, HK3.out, HO3.out⟩, by simp [intOf]; omega⟩ | (go_roundw; (case rel => exact ⟨_, k + 1, n', _, lv3, rfl, by simp, by rw [HL.out]; exact hlt, by have := HN'.out; have := HNK.out; omega, HFN.out, HNX.out, H3.out, HK3.out, HO3.out⟩); (case measure => simp [intOf]; omega))
      · obtain rfl : b = false := by
          have := congrArg Prod.snd hask
          unfold PoD.ask at this
          rw [if_pos h0] at this
          exact this.symm
        have HNX := Lib.hid (hG.trans (readG_stop (c := c) (.inl h0)))
        clear hP hK ho hG hF hnk he hc hcell hB1 hask h0 hgb
        go_wp2_with (go_at_call 21; ((with_reducible refine (askP10 HP.out HC.out (fun h => ⟨HF.out.stage.1, HF.out.going h⟩) HASK.out).mono ?_); rintro e w2 ⟨rfl, hk2⟩; have H2 := Lib.hid ((HP.out.keep hk2).keep ((Kept.refl _ _).alloc (.cells #[.int .i64 ak, .int .i64 ap, .int .u64 aov, .int .u64 aos, .int .u64 anv, .int .u64 ans] 43))); have HK2 := Lib.hid ((HKb.out.trans hk2).alloc (.cells #[.int .i64 ak, .int .i64 ap, .int .u64 aov, .int .u64 aos, .int .u64 anv, .int .u64 ans] 43)); clear hk2))
        go_ret2
        rw [HNX.out]
        exact ⟨B, mb, nn, lv, rfl, H2.out, by have := HNK.out; omega, HF.out.up (by omega), HK2.out, HOa.out⟩
    · obtain rfl : k = m := by have := HL.out; omega
      have HNX := Lib.hid (hG.trans (readG_stop (c := c) (.inr (Nat.le_of_eq HL.out))))
      have HP := Lib.hid hP
      clear hP hK ho hG hF hnk hlt
      go_wp2_with fail
      go_ret2
      rw [HNX.out]
      exact ⟨B, mb, nn, lv, rfl, HP.out, HNK.out, HF.out, HKa.out, HOa.out⟩
end Go.Proofs.Ythjkodjpopcjaaa
