/- Layer 9, mathematics: the machine's readings are the document's. -/
/- Layer 9, mathematics: whether a block lives, and its words. -/
/- Layer 9, mathematics: a block's words; each reading. -/
import Derived.Test.YthjkodjpopcjaaaVwD
import Derived.Test.YthjkodjpopcjaaaVwCp
namespace Go.Proofs.Ythjkodjpopcjaaa

def t0 : TpD := ⟨0, noOp, false⟩
/-- Between two readings. -/
structure Rel9 (v : VwD) (x : XvD) (who seq : Int) : Prop where
  who : v.who = who
  seq : v.seq = seq
  held : v.held = x.held
  st : (v.st = 2 ∧ x.stale = true ∧ v.val = 0) ∨ (x.stale = false ∧ (v.st = 1 ∨ v.st = 3))
/-- Within a reading: what is asked for, and how far it is. -/
def Agree (c : CfgD) (v : VwD) (who seq : Int) (r : RdR) : Prop :=
  v.st = r.2.2.2 ∧ (v.st = 0 → r.2.1.need = true ∧ v.ask c = (r.2.1.ask, true)) ∧ (v.st ≠ 0 → r.2.1.need = false ∧ r.2.1.ask = noOp ∧ v.val = r.2.2.1 ∧ Rel9 v r.1 who seq)

theorem agree_none {c : CfgD} {v : VwD} {who seq val st : Int} {x : XvD} {t : TpD} (h1 : v.st = st) (h2 : st ≠ 0) (h3 : t.need = false) (h4 : t.ask = noOp) (h5 : v.val = val) (h6 : Rel9 v x who seq) : Agree c v who seq (x, t, val, st) :=
  ⟨h1, fun h => absurd (h1.symm.trans h) h2, fun _ => ⟨h3, h4, h5, h6⟩⟩
theorem read_ask {c : CfgD} {v : VwD} {who seq : Int} {x : XvD} {t : TpD} {L : List OutD} (s0 : v.st = 0) (n2 : v.next = 2) (hn : t.need = false) (hl : L.length ≤ t.pos) : Agree c v who seq (loadR L seq x t v.pos) := by
  have e : ldP L t v.pos = ({ t with ask := ldOp v.pos, need := true }, noOut) := doP_ask hn hl
  unfold loadR
  rw [e]
  unfold ldR
  rw [if_pos rfl]
  refine ⟨s0, fun _ => ⟨rfl, ?_⟩, fun h => absurd s0 h⟩
  unfold VwD.ask
  rw [if_neg (by simp [s0]), if_neg (by omega), if_neg (by omega)]
theorem read_tell {c : CfgD} {v : VwD} {who seq : Int} {x : XvD} {t : TpD} {L : List OutD} {o : OutD} (s0 : v.st = 0) (n2 : v.next = 2) (v0 : v.val = 0) (hh : v.held = x.held) (hw : v.who = who) (hq : v.seq = seq) (hx : x.stale = false)
    (hn : t.need = false) (ha : t.ask = noOp) (hl : L[t.pos]? = some o) : Agree c (v.tell o.val o.seq) who seq (loadR L seq x t v.pos) := by
  have e : ldP L t v.pos = ({ t with pos := t.pos + 1 }, o) := doP_out hn hl
  have er : loadR L seq x t v.pos = if seq < o.seq then ({ x with stale := true }, { t with pos := t.pos + 1 }, 0, 2) else (x, { t with pos := t.pos + 1 }, o.val, 1) := by
    unfold loadR
    rw [e]
    unfold ldR
    rw [if_neg (by simp [hn])]
  have ev : v.tell o.val o.seq = if seq < o.seq then { v with st := 2 } else { v with val := o.val, st := 1 } := by
    unfold VwD.tell
    rw [if_neg (by simp [s0]), if_neg (by omega), hq]
    by_cases h : seq < o.seq
    · rw [if_pos h, if_pos h]
    · rw [if_neg h, if_neg h, if_pos n2]
  rw [er, ev]
  by_cases h : seq < o.seq
  · rw [if_pos h, if_pos h]
    exact agree_none rfl (by decide) hn ha v0 ⟨hw, hq, hh, .inl ⟨rfl, rfl, v0⟩⟩
  · rw [if_neg h, if_neg h]
    exact agree_none rfl (by decide) hn ha rfl ⟨hw, hq, hh, .inr ⟨hx, .inl rfl⟩⟩

def tells (v : VwD) (l : List OutD) : VwD := l.foldl (fun v o => v.tell o.val o.seq) v
/-- A cell that is read. -/
theorem cell_agree {c : CfgD} (hc : c.Bd) {v : VwD} {x : XvD} {who seq : Int} (hR : Rel9 v x who seq) (p : Int) (l : List OutD) (hg : ∀ i, i < l.length → (tells (v.cell c p) (l.take i)).st = 0) :
    Agree c (tells (v.cell c p) l) who seq (cellR c l seq x t0 p) := by
  obtain ⟨hw, hq, hh, hst⟩ := hR
  rcases hst with ⟨h2, hs, hv⟩ | ⟨hs, h13⟩
  · have e : v.cell c p = v := by unfold VwD.cell VwD.beg; rw [if_pos h2]
    rw [e] at hg ⊢
    cases l with
    | cons a r => have := hg 0 (by simp); simp [tells] at this; omega
    | nil =>
      unfold cellR
      rw [if_pos hs]
      exact agree_none h2 (by decide) rfl rfl hv ⟨hw, hq, hh, .inl ⟨h2, hs, hv⟩⟩
  · have n2 : ¬ v.st = 2 := by omega
    by_cases hp : p < c.ans ∨ c.word ≤ p
    · have e : v.cell c p = { v with block := -1, pos := p, val := 0, st := 3 } := by
        unfold VwD.cell VwD.beg
        rw [kind_mid hc, if_neg n2, if_pos (by simp [hp])]
      rw [e] at hg ⊢
      cases l with
      | cons a r => have := hg 0 (by simp); simp [tells] at this
      | nil =>
        unfold cellR
        rw [if_neg (by simp [hs]), if_pos hp]
        exact agree_none rfl (by decide) rfl rfl rfl ⟨hw, hq, hh, .inr ⟨hs, .inr rfl⟩⟩
    · have hp1 : ¬ p = -1 := by
        rintro rfl
        have : 1 ≤ c.ans := by have := hc.s0; unfold CfgD.ans; omega
        omega
      have e : v.cell c p = { v with block := -1, pos := p, val := 0, next := 2, st := 0 } := by
        unfold VwD.cell VwD.beg VwD.last
        rw [kind_mid hc, if_neg n2, if_neg (by simp [hp]), if_pos (.inl rfl), if_neg hp1]
      rw [e] at hg ⊢
      have er : cellR c l seq x t0 p = loadR l seq x t0 p := by unfold cellR; rw [if_neg (by simp [hs]), if_neg hp]
      rw [er]
      match l, hg with
      | [], _ => exact read_ask (v := { v with block := -1, pos := p, val := 0, next := 2, st := 0 }) rfl rfl rfl (by simp)
      | [o], _ => exact read_tell (v := { v with block := -1, pos := p, val := 0, next := 2, st := 0 }) rfl rfl rfl hh hw hq hs rfl rfl rfl
      | o :: o' :: r, hg =>
        have := hg 1 (by simp)
        simp [tells, VwD.tell] at this
        split at this <;> simp at this
end Go.Proofs.Ythjkodjpopcjaaa

namespace Go.Proofs.Ythjkodjpopcjaaa

theorem at11 {c : CfgD} (hc : c.Bd) (b : Int) : (c.at_ 11 b 0 = -1) ↔ (b < 0 ∨ c.b ≤ b) := by
  constructor
  · intro h
    by_cases g : b < 0 ∨ c.b ≤ b
    · exact g
    · exfalso
      unfold CfgD.at_ at h
      rw [if_pos ⟨by omega, by omega, by omega, by show b < c.b; omega, by omega, by show (0 : Int) < 1; omega⟩] at h
      have e : c.beg (11 : Int).toNat = c.life := rfl
      have e2 : c.apart (11 : Int).toNat = 1 := rfl
      rw [e, e2] at h
      have := hc.t1
      have := hc.s0
      have : 0 ≤ c.life := by unfold CfgD.life CfgD.root CfgD.ans; omega
      omega
  · intro h
    by_cases g : c.at_ 11 b 0 = -1
    · exact g
    · exfalso
      obtain ⟨-, ⟨-, h0, h1, -⟩, -⟩ := CfgD.at_hit hc g
      have : b < c.b := h1
      omega
theorem at16 {c : CfgD} (hc : c.Bd) (b k : Int) (h : c.at_ 16 b k ≠ -1) : ¬ (b < 0 ∨ c.b ≤ b) ∧ 0 ≤ c.at_ 16 b k := by
  obtain ⟨-, ⟨-, h0, h1, -⟩, h2, -⟩ := CfgD.at_hit hc h
  have : b < c.b := h1
  omega
section
variable {c : CfgD} {who seq b : Int} {x : XvD}
theorem live_0 (hs : x.stale = false) (hb : ¬ (b < 0 ∨ c.b ≤ b)) (hh : ¬ x.held = b) : liveR c [] who seq x t0 b = (x, ⟨0, ⟨1, c.at_ 3 who 0, 0, 0, b + 1, 0⟩, true⟩, 0) := by
  unfold liveR
  rw [if_neg (by simp [hs]), if_neg hb, if_neg hh, doP_ask (t := t0) rfl (by simp)]
  unfold liveTo
  rw [if_pos rfl]
  rfl
theorem live_1 (a : OutD) (hs : x.stale = false) (hb : ¬ (b < 0 ∨ c.b ≤ b)) (hh : ¬ x.held = b) : liveR c [a] who seq x t0 b = ({ x with held := -1 }, ⟨1, ldOp (c.at_ 11 b 0), true⟩, 0) := by
  unfold liveR
  rw [if_neg (by simp [hs]), if_neg hb, if_neg hh, doP_out (t := t0) (o := a) rfl rfl]
  unfold liveTo
  rw [if_neg (by simp [t0])]
  unfold loadR ldP
  rw [doP_ask (t := { t0 with pos := t0.pos + 1 }) rfl (by simp [t0])]
  unfold ldR
  rw [if_pos rfl]
  rfl
theorem live_2 (a o : OutD) (r : List OutD) (hs : x.stale = false) (hb : ¬ (b < 0 ∨ c.b ≤ b)) (hh : ¬ x.held = b) : liveR c (a :: o :: r) who seq x t0 b =
    if seq < o.seq then (⟨-1, true⟩, ⟨2, noOp, false⟩, 2) else if o.val = 1 then ({ x with held := b }, ⟨2, noOp, false⟩, 1) else ({ x with held := -1 }, ⟨2, noOp, false⟩, 3) := by
  unfold liveR
  rw [if_neg (by simp [hs]), if_neg hb, if_neg hh, doP_out (t := t0) (o := a) rfl rfl]
  unfold liveTo
  rw [if_neg (by simp [t0])]
  unfold loadR ldP
  rw [doP_out (t := { t0 with pos := t0.pos + 1 }) (o := o) rfl rfl]
  unfold ldR
  rw [if_neg (by simp [t0])]
  by_cases h : seq < o.seq
  · rw [if_pos h, if_pos h]
    rfl
  · rw [if_neg h, if_neg h]
    unfold liveEnd
    by_cases h1 : o.val = 1
    · rw [if_pos rfl, if_pos h1, if_pos h1]
      rfl
    · rw [if_pos rfl, if_neg h1, if_neg h1]
      rfl
/-- A reading of a block that is not held: what the machine does behind its beginning. -/
def VwD.ofB (v : VwD) (b pp : Int) : VwD := { v with block := b, pos := pp, val := 0, next := 0, st := 0 }
theorem ofB_0 {v : VwD} (hw : v.who = who) (pp : Int) : (v.ofB b pp).ask c = (⟨1, c.at_ 3 who 0, 0, 0, b + 1, 0⟩, true) := by
  unfold VwD.ask VwD.ofB
  rw [if_neg (by simp), if_pos rfl, hw]
theorem ofB_1 {v : VwD} (pp : Int) (a : OutD) : (v.ofB b pp).tell a.val a.seq = { v with held := -1, block := b, pos := pp, val := 0, next := 1, st := 0 } := by
  unfold VwD.tell VwD.ofB
  rw [if_neg (by simp), if_pos rfl]
theorem ofB_2 {v : VwD} (hq : v.seq = seq) (pp : Int) (a o : OutD) : ((v.ofB b pp).tell a.val a.seq).tell o.val o.seq =
    if seq < o.seq then { v with held := -1, block := b, pos := pp, val := 0, next := 1, st := 2 } else if o.val = 1 then (if pp = -1 then { v with held := b, block := b, pos := pp, val := 0, next := 1, st := 1 } else { v with held := b, block := b, pos := pp, val := 0, next := 2, st := 0 })
    else { v with held := -1, block := b, pos := pp, val := 0, next := 1, st := 3 } := by
  rw [ofB_1]
  unfold VwD.tell
  rw [if_neg (by simp), if_neg (by simp), hq]
  by_cases h : seq < o.seq
  · rw [if_pos h, if_pos h]
  · rw [if_neg h, if_neg h, if_neg (by simp)]
    by_cases h1 : o.val = 1
    · rw [if_neg (by simp [h1]), if_pos h1]
      unfold VwD.last
      rfl
    · rw [if_pos h1, if_neg h1]
theorem ofB_ask1 {v : VwD} (pp : Int) : ({ v with held := -1, block := b, pos := pp, val := 0, next := 1, st := 0 } : VwD).ask c = (ldOp (c.at_ 11 b 0), true) := by
  unfold VwD.ask
  rw [if_neg (by simp), if_neg (by simp), if_pos rfl]
theorem live_agree (hc : c.Bd) {v : VwD} (hR : Rel9 v x who seq) (l : List OutD) (hg : ∀ i, i < l.length → (tells (v.live c b) (l.take i)).st = 0) :
    Agree c (tells (v.live c b) l) who seq ((liveR c l who seq x t0 b).1, (liveR c l who seq x t0 b).2.1, 0, (liveR c l who seq x t0 b).2.2) := by
  obtain ⟨hw, hq, hh, hst⟩ := hR
  rcases hst with ⟨h2, hs, hv⟩ | ⟨hs, h13⟩
  · have e : v.live c b = v := by unfold VwD.live VwD.beg; rw [if_pos h2]
    rw [e] at hg ⊢
    cases l with
    | cons a r => have := hg 0 (by simp); simp [tells] at this; omega
    | nil =>
      have er : liveR c [] who seq x t0 b = (x, t0, 2) := by unfold liveR; rw [if_pos hs]
      rw [er]
      exact agree_none h2 (by simp) rfl rfl hv ⟨hw, hq, hh, .inl ⟨h2, hs, hv⟩⟩
  · have n2 : ¬ v.st = 2 := by omega
    by_cases hb : b < 0 ∨ c.b ≤ b
    · have e : v.live c b = { v with block := b, pos := -1, val := 0, st := 3 } := by
        unfold VwD.live VwD.beg
        rw [if_neg n2, if_pos (by simp [(at11 hc b).2 hb])]
      rw [e] at hg ⊢
      cases l with
      | cons a r => have := hg 0 (by simp); simp [tells] at this
      | nil =>
        have er : liveR c [] who seq x t0 b = (x, t0, 3) := by unfold liveR; rw [if_neg (by simp [hs]), if_pos hb]
        rw [er]
        exact agree_none rfl (by simp) rfl rfl rfl ⟨hw, hq, hh, .inr ⟨hs, .inr rfl⟩⟩
    · have hne : (c.at_ 11 b 0 != -1) = true := by simpa using fun h => hb ((at11 hc b).1 h)
      by_cases hd : x.held = b
      · have e : v.live c b = { v with block := b, pos := -1, val := 0, st := 1 } := by
          unfold VwD.live VwD.beg VwD.last
          rw [if_neg n2, hne, if_neg (by simp), if_pos (.inr (by omega)), if_pos rfl]
        rw [e] at hg ⊢
        cases l with
        | cons a r => have := hg 0 (by simp); simp [tells] at this
        | nil =>
          have er : liveR c [] who seq x t0 b = (x, t0, 1) := by unfold liveR; rw [if_neg (by simp [hs]), if_neg hb, if_pos hd]
          rw [er]
          exact agree_none rfl (by simp) rfl rfl rfl ⟨hw, hq, hh, .inr ⟨hs, .inl rfl⟩⟩
      · have e : v.live c b = v.ofB b (-1) := by
          unfold VwD.live VwD.beg VwD.ofB
          rw [if_neg n2, hne, if_neg (by simp), if_neg (by omega)]
        rw [e] at hg ⊢
        match l, hg with
        | [], _ =>
          rw [live_0 hs hb hd]
          exact ⟨rfl, fun _ => ⟨rfl, ofB_0 hw (-1)⟩, fun h => absurd rfl h⟩
        | [a], _ =>
          rw [live_1 a hs hb hd]
          simp only [tells, List.foldl, ofB_1]
          exact ⟨rfl, fun _ => ⟨rfl, ofB_ask1 (-1)⟩, fun h => absurd rfl h⟩
        | [a, o], _ =>
          rw [live_2 a o [] hs hb hd]
          simp only [tells, List.foldl, ofB_2 hq]
          by_cases h : seq < o.seq
          · rw [if_pos h, if_pos h]
            exact agree_none rfl (by simp) rfl rfl rfl ⟨hw, hq, rfl, .inl ⟨rfl, rfl, rfl⟩⟩
          · rw [if_neg h, if_neg h]
            by_cases h1 : o.val = 1
            · rw [if_pos h1, if_pos h1, if_pos trivial]
              exact agree_none rfl (by simp) rfl rfl rfl ⟨hw, hq, rfl, .inr ⟨hs, .inl rfl⟩⟩
            · rw [if_neg h1, if_neg h1]
              exact agree_none rfl (by simp) rfl rfl rfl ⟨hw, hq, rfl, .inr ⟨hs, .inr rfl⟩⟩
        | a :: o :: q :: r, hg =>
          have := hg 2 (by simp)
          simp only [List.take, tells, List.foldl, ofB_2 hq] at this
          by_cases h : seq < o.seq
          · rw [if_pos h] at this; simp at this
          · rw [if_neg h] at this
            by_cases h1 : o.val = 1
            · rw [if_pos h1, if_pos trivial] at this; simp at this
            · rw [if_neg h1] at this; simp at this
end
end Go.Proofs.Ythjkodjpopcjaaa

namespace Go.Proofs.Ythjkodjpopcjaaa
section
variable {c : CfgD} {who seq b k : Int} {x : XvD}
theorem word_of {l : List OutD} (hs : x.stale = false) (hp : ¬ c.at_ 16 b k < 0) {r : LvR} (h : liveR c l who seq x t0 b = r) :
    wordR c l who seq x t0 b k = if r.2.2 = 1 then loadR l seq r.1 r.2.1 (c.at_ 16 b k) else (r.1, r.2.1, 0, r.2.2) := by
  unfold wordR
  rw [if_neg (by simp [hs]), if_neg hp, h]
theorem last_tell (v : VwD) (o : OutD) (s0 : v.st = 0) (n2 : v.next = 2) : (v.tell o.val o.seq).st ≠ 0 := by
  unfold VwD.tell
  rw [if_neg (by simp [s0]), if_neg (by omega)]
  by_cases h : v.seq < o.seq
  · rw [if_pos h]; simp
  · rw [if_neg h, if_pos n2]; simp
theorem word_agree (hc : c.Bd) {v : VwD} (hR : Rel9 v x who seq) (l : List OutD) (hg : ∀ i, i < l.length → (tells (v.word c b k) (l.take i)).st = 0) :
    Agree c (tells (v.word c b k) l) who seq (wordR c l who seq x t0 b k) := by
  obtain ⟨hw, hq, hh, hst⟩ := hR
  rcases hst with ⟨h2, hs, hv⟩ | ⟨hs, h13⟩
  · have e : v.word c b k = v := by unfold VwD.word VwD.beg; rw [if_pos h2]
    rw [e] at hg ⊢
    cases l with
    | cons a r => have := hg 0 (by simp); simp [tells] at this; omega
    | nil =>
      have er : wordR c [] who seq x t0 b k = (x, t0, 0, 2) := by unfold wordR; rw [if_pos hs]
      rw [er]
      exact agree_none h2 (by simp) rfl rfl hv ⟨hw, hq, hh, .inl ⟨h2, hs, hv⟩⟩
  · have n2 : ¬ v.st = 2 := by omega
    by_cases hp : c.at_ 16 b k = -1
    · have e : v.word c b k = { v with block := b, pos := c.at_ 16 b k, val := 0, st := 3 } := by
        unfold VwD.word VwD.beg
        rw [if_neg n2, if_pos (by simp [hp])]
      rw [e] at hg ⊢
      cases l with
      | cons a r => have := hg 0 (by simp); simp [tells] at this
      | nil =>
        have er : wordR c [] who seq x t0 b k = (x, t0, 0, 3) := by unfold wordR; rw [if_neg (by simp [hs]), if_pos (by omega)]
        rw [er]
        exact agree_none rfl (by simp) rfl rfl rfl ⟨hw, hq, hh, .inr ⟨hs, .inr rfl⟩⟩
    · obtain ⟨hb, p0⟩ := at16 hc b k hp
      have hne : (c.at_ 16 b k != -1) = true := by simpa using hp
      have hp' : ¬ c.at_ 16 b k < 0 := by omega
      by_cases hd : x.held = b
      · have e : v.word c b k = { v with block := b, pos := c.at_ 16 b k, val := 0, next := 2, st := 0 } := by
          unfold VwD.word VwD.beg VwD.last
          rw [if_neg n2, hne, if_neg (by simp), if_pos (.inr (by omega)), if_neg hp]
        have el : ∀ l, liveR c l who seq x t0 b = (x, t0, 1) := fun l => by unfold liveR; rw [if_neg (by simp [hs]), if_neg hb, if_pos hd]
        rw [e] at hg ⊢
        rw [word_of hs hp' (el l), if_pos rfl]
        match l, hg with
        | [], _ => exact read_ask (v := { v with block := b, pos := c.at_ 16 b k, val := 0, next := 2, st := 0 }) rfl rfl rfl (by simp)
        | [o], _ => exact read_tell (v := { v with block := b, pos := c.at_ 16 b k, val := 0, next := 2, st := 0 }) rfl rfl rfl hh hw hq hs rfl rfl rfl
        | o :: o' :: r, hg =>
          have := hg 1 (by simp)
          simp only [List.take, tells, List.foldl] at this
          exact absurd this (last_tell _ o rfl rfl)
      · have e : v.word c b k = v.ofB b (c.at_ 16 b k) := by
          unfold VwD.word VwD.beg VwD.ofB
          rw [if_neg n2, hne, if_neg (by simp), if_neg (by omega)]
        rw [e] at hg ⊢
        match l, hg with
        | [], _ =>
          rw [word_of hs hp' (live_0 hs hb hd), if_neg (by simp)]
          exact ⟨rfl, fun _ => ⟨rfl, ofB_0 hw _⟩, fun h => absurd rfl h⟩
        | [a], _ =>
          rw [word_of hs hp' (live_1 a hs hb hd), if_neg (by simp)]
          simp only [tells, List.foldl, ofB_1]
          exact ⟨rfl, fun _ => ⟨rfl, ofB_ask1 _⟩, fun h => absurd rfl h⟩
        | a :: o :: r, hg =>
          rw [word_of hs hp' (live_2 a o r hs hb hd)]
          have et : tells (v.ofB b (c.at_ 16 b k)) (a :: o :: r) = tells (((v.ofB b (c.at_ 16 b k)).tell a.val a.seq).tell o.val o.seq) r := rfl
          have e2 := ofB_2 (b := b) hq (c.at_ 16 b k) a o
          by_cases h : seq < o.seq
          · rw [if_pos h] at e2 ⊢
            rw [if_neg (by simp), et, e2]
            cases r with
            | cons q r =>
              have := hg 2 (by simp)
              simp only [List.take, tells, List.foldl, e2] at this
              simp at this
            | nil => exact agree_none rfl (by simp) rfl rfl rfl ⟨hw, hq, rfl, .inl ⟨rfl, rfl, rfl⟩⟩
          · rw [if_neg h] at e2 ⊢
            by_cases h1 : o.val = 1
            · rw [if_pos h1, if_neg hp] at e2
              rw [if_pos h1, if_pos rfl, et, e2]
              match r, hg with
              | [], _ => exact read_ask (v := { v with held := b, block := b, pos := c.at_ 16 b k, val := 0, next := 2, st := 0 }) rfl rfl rfl (by simp)
              | [q], _ => exact read_tell (v := { v with held := b, block := b, pos := c.at_ 16 b k, val := 0, next := 2, st := 0 }) rfl rfl rfl rfl hw hq hs rfl rfl rfl
              | q :: q' :: r, hg =>
                have := hg 3 (by simp)
                simp only [List.take, tells, List.foldl, e2] at this
                exact absurd this (last_tell _ q rfl rfl)
            · rw [if_neg h1] at e2
              rw [if_neg h1, if_neg (by simp), et, e2]
              cases r with
              | cons q r =>
                have := hg 2 (by simp)
                simp only [List.take, tells, List.foldl, e2] at this
                simp at this
              | nil => exact agree_none rfl (by simp) rfl rfl rfl ⟨hw, hq, rfl, .inr ⟨hs, .inr rfl⟩⟩
/-- A reading is begun. -/
def begQ (c : CfgD) (v : VwD) (qk qa qb : Int) : VwD :=
  if qk = 0 then v.cell c qa else if qk = 1 then v.word c qb qa else if qk = 2 then v.live c qb else v.cell c (c.at_ 10 (bits BinOp.and IntKind.i64 qa 15) 0)
/-- The machine's reading is the document's. -/
theorem reads_agree (hc : c.Bd) {v : VwD} (hR : Rel9 v x who seq) (qk qa qb : Int) (l : List OutD) (hg : ∀ i, i < l.length → (tells (begQ c v qk qa qb) (l.take i)).st = 0) :
    Agree c (tells (begQ c v qk qa qb) l) who seq (doesR c l who seq x t0 qk qa qb) := by
  unfold begQ at hg ⊢
  unfold doesR
  by_cases h0 : qk = 0
  · rw [if_pos h0] at hg ⊢
    rw [if_pos h0]
    exact cell_agree hc hR qa l hg
  · rw [if_neg h0] at hg ⊢
    rw [if_neg h0]
    by_cases h1 : qk = 1
    · rw [if_pos h1] at hg ⊢
      rw [if_pos h1]
      exact word_agree hc hR l hg
    · rw [if_neg h1] at hg ⊢
      rw [if_neg h1]
      by_cases h2 : qk = 2
      · rw [if_pos h2] at hg ⊢
        rw [if_pos h2]
        exact live_agree hc hR l hg
      · rw [if_neg h2] at hg ⊢
        rw [if_neg h2]
        exact cell_agree hc hR _ l hg
end
end Go.Proofs.Ythjkodjpopcjaaa
