/- The document's tape (layer 9): Do. -/
import Derived.Test.YthjkodjpopcjaaaVwY
namespace Go.Proofs.Ythjkodjpopcjaaa
open Go.RowKit

/-- A tape's own: how many replies were used, the step that is asked for, whether one is. -/
structure TpD where
  pos : Nat
  ask : StpD
  need : Bool
def tpA (sl : Value) (t : TpD) : Array Value := #[sl, .int .i64 t.pos, .int .i64 t.ask.kind, .int .i64 t.ask.pos, .int .u64 t.ask.ov, .int .u64 t.ask.os, .int .u64 t.ask.nv, .int .u64 t.ask.ns, .bool t.need]
/-- A reply, as data. -/
structure OutD where
  val : Int
  seq : Int
  ok : Bool
def OutD.cells (o : OutD) : List Value := [.int .u64 o.val, .int .u64 o.seq, .bool o.ok]
def OutD.v (o : OutD) : Value := .agg #[.int .u64 o.val, .int .u64 o.seq, .bool o.ok]
def noOut : OutD := ⟨0, 0, false⟩
def doP (L : List OutD) (t : TpD) (op : StpD) : TpD × OutD :=
  if t.need then (t, noOut) else match L[t.pos]? with
    | none => ({ t with ask := op, need := true }, noOut)
    | some o => ({ t with pos := t.pos + 1 }, o)
theorem doP_need {L : List OutD} {t : TpD} {op : StpD} (h : t.need = true) : doP L t op = (t, noOut) := by unfold doP; rw [if_pos h]
theorem doP_ask {L : List OutD} {t : TpD} {op : StpD} (h : t.need = false) (hl : L.length ≤ t.pos) : doP L t op = ({ t with ask := op, need := true }, noOut) := by
  unfold doP
  rw [if_neg (by simp [h]), List.getElem?_eq_none hl]
theorem doP_out {L : List OutD} {t : TpD} {op : StpD} {o : OutD} (h : t.need = false) (ho : L[t.pos]? = some o) : doP L t op = ({ t with pos := t.pos + 1 }, o) := by
  unfold doP
  rw [if_neg (by simp [h]), ho]
def doV (sl : Value) (r : TpD × OutD) : Value := .tuple #[.agg (tpA sl r.1), r.2.v]

section
variable {P : Program} {fn : Func} {p q r r2 : Tmp} {ty ty2 : TypeId} (tmps : Array Value) (w : World) (g : Nat) (t : TypeId) (cs : Array Value) (fr : Nat × Nat) (d : TypeDesc)
    (hp : tmps.getD p undef = .pointer (some ⟨g, 0, none⟩)) (hg : w.heap[g]? = some (.cells cs t fr))
    (hu : P.underlying ty = some d) (hd : (match d with | .struct _ | .array _ _ => true | _ => false) = true) (hi : (P.info? ty).map (·.size) = some cs.size)
    (g2 : Nat) (t2 : TypeId) (cs2 : Array Value) (fr2 : Nat × Nat) (d2 : TypeDesc)
    (hp2 : tmps.getD q undef = .pointer (some ⟨g2, 0, none⟩)) (hg2 : w.heap[g2]? = some (.cells cs2 t2 fr2))
    (hu2 : P.underlying ty2 = some d2) (hd2 : (match d2 with | .struct _ | .array _ _ => true | _ => false) = true) (hi2 : (P.info? ty2).map (·.size) = some cs2.size)
include hp hg hu hd hi hp2 hg2 hu2 hd2 hi2
theorem results_cc (h : fn.results = #[.cell p ty, .cell q ty2]) : (results fn tmps).run P w = .ok (.tuple #[.agg cs, .agg cs2]) w := by
  have hp' : tmps[p]?.getD undef = .pointer (some ⟨g, 0, none⟩) := by simpa using hp
  have hp2' : tmps[q]?.getD undef = .pointer (some ⟨g2, 0, none⟩) := by simpa using hp2
  simp [results, h, hp', hp2', asAddr, run_loadVar_row w g t ty cs fr d hg hu hd hi, run_loadVar_row w g2 t2 ty2 cs2 fr2 d2 hg2 hu2 hd2 hi2]
theorem results_cct (h : fn.results = #[.cell p ty, .cell q ty2, .tmp r]) : (results fn tmps).run P w = .ok (.tuple #[.agg cs, .agg cs2, tmps.getD r undef]) w := by
  have hp' : tmps[p]?.getD undef = .pointer (some ⟨g, 0, none⟩) := by simpa using hp
  have hp2' : tmps[q]?.getD undef = .pointer (some ⟨g2, 0, none⟩) := by simpa using hp2
  simp [results, h, hp', hp2', asAddr, run_loadVar_row w g t ty cs fr d hg hu hd hi, run_loadVar_row w g2 t2 ty2 cs2 fr2 d2 hg2 hu2 hd2 hi2]
theorem results_cctt (h : fn.results = #[.cell p ty, .cell q ty2, .tmp r, .tmp r2]) : (results fn tmps).run P w = .ok (.tuple #[.agg cs, .agg cs2, tmps.getD r undef, tmps.getD r2 undef]) w := by
  have hp' : tmps[p]?.getD undef = .pointer (some ⟨g, 0, none⟩) := by simpa using hp
  have hp2' : tmps[q]?.getD undef = .pointer (some ⟨g2, 0, none⟩) := by simpa using hp2
  simp [results, h, hp', hp2', asAddr, run_loadVar_row w g t ty cs fr d hg hu hd hi, run_loadVar_row w g2 t2 ty2 cs2 fr2 d2 hg2 hu2 hd2 hi2]
end
/-- Whole variables read: names of their own. -/
def ldTape (a : Addr) : Sem Value := loadVar 47 a
theorem ldTape_eq (a : Addr) : loadVar 47 a = ldTape a := rfl
def ldOut (a : Addr) : Sem Value := loadVar 55 a
theorem ldOut_eq (a : Addr) : loadVar 55 a = ldOut a := rfl
theorem stTape_eq (a : Addr) (v : Value) : storeVar 47 a v = stV 47 a v := rfl
theorem stOut_eq (a : Addr) (v : Value) : storeVar 55 a v = stV 55 a v := rfl
def tp0 : Array Value := #[.slice none 0 0, .int .i64 0, .int .i64 0, .int .i64 0, .int .u64 0, .int .u64 0, .int .u64 0, .int .u64 0, .bool false]
theorem ldTape_blk {w : World} {B : Nat} {cs : Array Value} (h : Blk w B 47 cs) (hc : cs.size = 9) : (ldTape ⟨B, 0, none⟩).run Try.prog w = .ok (.agg cs) w :=
  run_loadVar_row w B 47 47 cs (0, 0) _ h Try.underlying47 rfl (by rw [hc]; kernel_rfl)
theorem ldOut_at {w : World} {b off : Nat} {o : OutD} (h : w.cell? ⟨b, off, none⟩ = some (.int .u64 o.val) ∧ w.cell? ⟨b, off + 1, none⟩ = some (.int .u64 o.seq) ∧ w.cell? ⟨b, off + 2, none⟩ = some (.bool o.ok)) :
    (ldOut ⟨b, off, none⟩).run Try.prog w = .ok o.v w :=
  run_loadVar_mid w b off 55 [.int .u64 o.val, .int .u64 o.seq, .bool o.ok] _ (fun j u hu => by
    match j with
    | 0 => cases hu; exact h.1
    | 1 => cases hu; exact h.2.1
    | 2 => cases hu; exact h.2.2
    | n + 3 => simp at hu) Try.underlying55 rfl (by kernel_rfl)
theorem tpA_one (sl : Value) (t : TpD) (h : sl.oneCell' = true) : (tpA sl t).all (·.oneCell') = true := by simp [tpA, Value.oneCell'] at h ⊢; exact h

section
attribute [local go_sem ↓] ldTape_eq ldOut_eq stTape_eq stOut_eq
set_option maxRecDepth 100000 in
set_option maxHeartbeats 2000000 in
theorem rDo_out {w : World} {A : Option Addr} {m c : Nat} {L : List OutD} (hL : L.length = m) (hm : m ≤ maxLen) (hs : SlAt w A 3 (L.map OutD.cells)) (pos : Nat) (ask op : StpD) {o : OutD} (ho : L[pos]? = some o) (hp' : pos < m) :
    Calls Try.prog 91 #[.agg (tpA (.slice A m c) ⟨pos, ask, false⟩), stpV op] w fun e w' => e = .returned (doV (.slice A m c) (⟨pos + 1, ask, false⟩, o)) ∧ Kept (fun _ => False) w w' := by
  obtain ⟨b, off, rfl, hb, hc⟩ := hs (by rw [List.length_map]; omega)
  have HF : ∀ W, Kept (fun _ => False) w W → (ldOut ⟨b, off + pos * 3, none⟩).run Try.prog W = .ok o.v W := fun W k =>
    have hL : (L.map OutD.cells)[pos]? = some o.cells := by rw [List.getElem?_map, ho]; rfl
    ldOut_at ⟨k.cell_some (fun h => h) (hc pos _ hL 0 _ rfl), k.cell_some (fun h => h) (hc pos _ hL 1 _ rfl), k.cell_some (fun h => h) (hc pos _ hL 2 _ rfl)⟩
  have e1 : IntKind.i64.wrap (pos + 1 : Int) = pos + 1 := IntWalk.i64_in _ (by unfold maxLen at hm; omega)
  have k0 : (0 : Int) ≤ pos := by omega
  have k1 : (pos : Int) < m := by omega
  have e2 : IntKind.i64.wrap ((pos : Int) + 1 - 1) = pos := by rw [show (pos : Int) + 1 - 1 = pos from by omega]; exact IntWalk.i64_in _ (by unfold maxLen at hm; omega)
  have e3 : IntKind.i64.wrap (pos : Int) = pos := IntWalk.i64_in _ (by unfold maxLen at hm; omega)
  clear hs hc ho
  have HT : Hid (Blk (((w.alloc (.cells (tpA (.slice (some ⟨b, off, none⟩) m c) ⟨pos + 1, ask, false⟩) 47)).alloc (.cells #[.int .i64 op.kind, .int .i64 op.pos, .int .u64 op.ov, .int .u64 op.os, .int .u64 op.nv, .int .u64 op.ns] 43)).alloc (.cells tp0 47) |>.alloc (.cells #[.int .u64 0, .int .u64 0, .bool false] 55)).drew w.heap.size 47 (tpA (.slice (some ⟨b, off, none⟩) m c) ⟨pos + 1, ask, false⟩)) := Lib.hid (Blk.drew ((((Blk.new _ _ _).alloc _).alloc _).alloc _))
  have HZ : Hid (Blk (((w.alloc (.cells (tpA (.slice (some ⟨b, off, none⟩) m c) ⟨pos + 1, ask, false⟩) 47)).alloc (.cells #[.int .i64 op.kind, .int .i64 op.pos, .int .u64 op.ov, .int .u64 op.os, .int .u64 op.nv, .int .u64 op.ns] 43)).alloc (.cells tp0 47) |>.alloc (.cells #[.int .u64 0, .int .u64 0, .bool false] 55)).drew (w.heap.size + 1 + 1) 47 tp0) := Lib.hid (Blk.drew ((Blk.new' _ _ _ _ (by simp)).alloc _))
  have HO : Hid (Blk (((w.alloc (.cells (tpA (.slice (some ⟨b, off, none⟩) m c) ⟨pos + 1, ask, false⟩) 47)).alloc (.cells #[.int .i64 op.kind, .int .i64 op.pos, .int .u64 op.ov, .int .u64 op.os, .int .u64 op.nv, .int .u64 op.ns] 43)).alloc (.cells tp0 47) |>.alloc (.cells #[.int .u64 0, .int .u64 0, .bool false] 55)).drew (w.heap.size + 1 + 1 + 1) 55 #[.int .u64 0, .int .u64 0, .bool false]) := Lib.hid (Blk.drew (Blk.new' _ _ _ _ (by simp)))
  have HK : Hid (Kept (fun _ => False) w (((w.alloc (.cells (tpA (.slice (some ⟨b, off, none⟩) m c) ⟨pos + 1, ask, false⟩) 47)).alloc (.cells #[.int .i64 op.kind, .int .i64 op.pos, .int .u64 op.ov, .int .u64 op.os, .int .u64 op.nv, .int .u64 op.ns] 43)).alloc (.cells tp0 47) |>.alloc (.cells #[.int .u64 0, .int .u64 0, .bool false] 55)).drew) := Lib.hid ((((((Kept.refl _ _).alloc _).alloc _).alloc _).alloc _).drew)
  obtain ⟨w5, hst5, hB5, hK5⟩ := stV_blk (ty := 47) (cells := tpA (.slice (some ⟨b, off, none⟩) m c) ⟨pos + 1, ask, false⟩) HZ.out (by kernel_rfl) rfl (tpA_one _ _ rfl)
  obtain ⟨w6, hst6, hB6, hK6⟩ := stV_blk (ty := 55) (cells := #[.int .u64 o.val, .int .u64 o.seq, .bool o.ok]) (hK5.blk HO.out (by omega)) (by kernel_rfl) rfl (by simp [Value.oneCell'])
  have HB5 := Lib.hid (hK6.blk hB5 (by omega))
  have HB6 := Lib.hid hB6
  have HK6 := Lib.hid (Kept.fresh9 (Kept.fresh9 HK.out hK5 (by omega)) hK6 (by omega))
  have S0 := Lib.hid (And.intro (ldTape_blk HT.out rfl) (And.intro (Blk.cell HT.out 0) (And.intro (Blk.cell HT.out 1) (HF _ HK.out))))
  have HT5 := Lib.hid (hK5.blk HT.out (by omega))
  have S5 := Lib.hid (And.intro (ldTape_blk HT5.out rfl) (And.intro (Blk.cell HT5.out 0) (And.intro (Blk.cell HT5.out 1) (HF _ (Kept.fresh9 HK.out hK5 (by omega))))))
  have HT6 := Lib.hid (hK6.blk HT5.out (by omega))
  have S6 := Lib.hid (And.intro (ldTape_blk HT6.out rfl) (And.intro (Blk.cell HT6.out 0) (And.intro (Blk.cell HT6.out 1) (HF _ HK6.out))))
  clear HF hB5 hK5 hB6 hK6
  unfold tpA tp0 at hst5 S0
  have ec : ((pos + 1 : Nat) : Int) = (pos : Int) + 1 := by omega
  simp only [ec] at hst5 S0
  clear ec
  unfold OutD.v at S0
  unfold tpA stpV
  go_enter Try.func91, Try.ntmps91
  go_wp2_with fail
  go_region_held3 (fun w' => (ldTape ⟨w.heap.size, 0, none⟩).run Try.prog w' = .ok (.agg #[.slice (some ⟨b, off, none⟩) m c, .int .i64 (pos + 1), .int .i64 ask.kind, .int .i64 ask.pos, .int .u64 ask.ov, .int .u64 ask.os, .int .u64 ask.nv, .int .u64 ask.ns, .bool false]) w' ∧ w'.cell? ⟨w.heap.size, 0, none⟩ = some (.slice (some ⟨b, off, none⟩) m c) ∧ w'.cell? ⟨w.heap.size, 1, none⟩ = some (.int .i64 (pos + 1)) ∧ (ldOut ⟨b, off + pos * 3, none⟩).run Try.prog w' = .ok (.agg #[.int .u64 o.val, .int .u64 o.seq, .bool o.ok]) w')
    (first | exact S6.out | exact S5.out | exact S0.out) (fail)
  go_wp2_with fail
  exact bodyPost_ret (v := doV (.slice (some ⟨b, off, none⟩) m c) (⟨pos + 1, ask, false⟩, o)) (results_cc _ _ (w.heap.size + 1 + 1) 47 (tpA (.slice (some ⟨b, off, none⟩) m c) ⟨pos + 1, ask, false⟩) (0, 0) _ rfl HB5.out Try.underlying47 rfl (by kernel_rfl) (w.heap.size + 1 + 1 + 1) 55 _ (0, 0) _ rfl HB6.out Try.underlying55 rfl (by kernel_rfl) rfl) rfl ⟨rfl, HK6.out⟩
end
set_option maxRecDepth 100000 in
set_option maxHeartbeats 2000000 in
theorem rDo_calls {w : World} {A : Option Addr} {m c : Nat} {L : List OutD} (hL : L.length = m) (hm : m ≤ maxLen) (hs : SlAt w A 3 (L.map OutD.cells)) (t : TpD) (op : StpD) :
    Calls Try.prog 91 #[.agg (tpA (.slice A m c) t), stpV op] w fun e w' => e = .returned (doV (.slice A m c) (doP L t op)) ∧ Kept (fun _ => False) w w' := by
  obtain ⟨pos, ask, need⟩ := t
  cases need with
  | true =>
    rw [doP_need rfl]
    unfold tpA stpV
    go_enter Try.func91, Try.ntmps91
    go_wp2_with fail
    exact bodyPost_ret (v := doV (.slice A m c) (⟨pos, ask, true⟩, noOut)) (results_cc _ _ (w.heap.size + 1 + 1) 47 (tpA (.slice A m c) ⟨pos, ask, true⟩) (0, 0) _ rfl ((Blk.new' _ _ _ _ (by simp)).alloc _) Try.underlying47 rfl (by kernel_rfl) (w.heap.size + 1 + 1 + 1) 55 _ (0, 0) _ rfl (Blk.new' _ _ _ _ (by simp)) Try.underlying55 rfl (by kernel_rfl) rfl) rfl ⟨rfl, ((((Kept.refl _ _).alloc _).alloc _).alloc _).alloc _⟩
  | false =>
    by_cases hp : m ≤ pos
    · rw [doP_ask rfl (by rw [hL]; exact hp)]
      unfold tpA stpV
      go_enter Try.func91, Try.ntmps91
      go_wp2_with fail
      exact bodyPost_ret (v := doV (.slice A m c) (⟨pos, op, true⟩, noOut)) (results_cc _ _ (w.heap.size + 1 + 1) 47 (tpA (.slice A m c) ⟨pos, op, true⟩) (0, 0) _ rfl ((Blk.new' _ _ _ _ (by simp)).alloc _) Try.underlying47 rfl (by kernel_rfl) (w.heap.size + 1 + 1 + 1) 55 _ (0, 0) _ rfl (Blk.new' _ _ _ _ (by simp)) Try.underlying55 rfl (by kernel_rfl) rfl) rfl ⟨rfl, ((((Kept.refl _ _).alloc _).alloc _).alloc _).alloc _⟩
    · obtain ⟨o, ho⟩ : ∃ o, L[pos]? = some o := ⟨_, List.getElem?_eq_getElem (by omega)⟩
      rw [doP_out rfl ho]
      exact rDo_out hL hm hs pos ask op ho (by omega)

def OutD.a (o : OutD) : Array Value := #[.int .u64 o.val, .int .u64 o.seq, .bool o.ok]
theorem OutD.a_one (o : OutD) : o.a.all (·.oneCell') = true := by simp [OutD.a, Value.oneCell']
theorem doA {w : World} {A : Option Addr} {m c : Nat} {L : List OutD} (hL : L.length = m) (hm : m ≤ maxLen) (hs : SlAt w A 3 (L.map OutD.cells)) (t : TpD) (k p ov os nv ns : Int) :
    Calls Try.prog 91 #[.agg (tpA (.slice A m c) t), .agg #[.int .i64 k, .int .i64 p, .int .u64 ov, .int .u64 os, .int .u64 nv, .int .u64 ns]] w fun e w' =>
      e = .returned (.tuple #[.agg (tpA (.slice A m c) (doP L t ⟨k, p, ov, os, nv, ns⟩).1), .agg (doP L t ⟨k, p, ov, os, nv, ns⟩).2.a]) ∧ Kept (fun _ => False) w w' := rDo_calls hL hm hs t ⟨k, p, ov, os, nv, ns⟩
/-- What loading a cell tells. -/
def ldP (L : List OutD) (t : TpD) (p : Int) : TpD × OutD := doP L t (ldOp p)
def cellA (v s : Int) : Array Value := #[.int .u64 v, .int .u64 s]
theorem cellA_one (v s : Int) : (cellA v s).all (·.oneCell') = true := by simp [cellA, Value.oneCell']
def ldV (sl : Value) (r : TpD × OutD) : Value := .tuple #[.agg (tpA sl r.1), .agg (cellA r.2.val r.2.seq)]
def ldCell (a : Addr) : Sem Value := loadVar 41 a
theorem ldCell_eq (a : Addr) : loadVar 41 a = ldCell a := rfl
theorem stCell_eq (a : Addr) (v : Value) : storeVar 41 a v = stV 41 a v := rfl
theorem ldCell_at {w : World} {b off : Nat} {v s : Int} (h : w.cell? ⟨b, off, none⟩ = some (.int .u64 v) ∧ w.cell? ⟨b, off + 1, none⟩ = some (.int .u64 s)) :
    (ldCell ⟨b, off, none⟩).run Try.prog w = .ok (.agg (cellA v s)) w :=
  run_loadVar_mid w b off 41 [.int .u64 v, .int .u64 s] _ (fun j u hu => by
    match j with
    | 0 => cases hu; exact h.1
    | 1 => cases hu; exact h.2
    | n + 2 => simp at hu) Try.underlying41 rfl (by kernel_rfl)
section
attribute [local go_sem ↓] ldTape_eq ldOut_eq stTape_eq stOut_eq ldCell_eq stCell_eq
set_option maxRecDepth 100000 in
set_option maxHeartbeats 2000000 in
theorem rLoad_calls {w : World} {A : Option Addr} {m c : Nat} {L : List OutD} (hL : L.length = m) (hm : m ≤ maxLen) (hs : SlAt w A 3 (L.map OutD.cells)) (t : TpD) (p : Int) :
    Calls Try.prog 67 #[.agg (tpA (.slice A m c) t), .int .i64 p] w fun e w' => e = .returned (ldV (.slice A m c) (ldP L t p)) ∧ Kept (fun _ => False) w w' := by
  have HS := Lib.hid hs
  have HL := Lib.hid hL
  have HM := Lib.hid hm
  have HT0 : Hid (Blk (((w.alloc (.cells (tpA (.slice A m c) t) 47)).alloc (.cells tp0 47)).alloc (.cells #[.int .u64 0, .int .u64 0] 41)) w.heap.size 47 (tpA (.slice A m c) t)) := Lib.hid (((Blk.new _ _ _).alloc _).alloc _)
  have HZ0 : Hid (Blk (((w.alloc (.cells (tpA (.slice A m c) t) 47)).alloc (.cells tp0 47)).alloc (.cells #[.int .u64 0, .int .u64 0] 41)) (w.heap.size + 1) 47 tp0) := Lib.hid ((Blk.new' _ _ _ _ (by simp)).alloc _)
  have HC0 : Hid (Blk (((w.alloc (.cells (tpA (.slice A m c) t) 47)).alloc (.cells tp0 47)).alloc (.cells #[.int .u64 0, .int .u64 0] 41)) (w.heap.size + 1 + 1) 41 #[.int .u64 0, .int .u64 0]) := Lib.hid (Blk.new' _ _ _ _ (by simp))
  have HK0 : Hid (Kept (fun _ => False) w (((w.alloc (.cells (tpA (.slice A m c) t) 47)).alloc (.cells tp0 47)).alloc (.cells #[.int .u64 0, .int .u64 0] 41))) := Lib.hid ((((Kept.refl _ _).alloc _).alloc _).alloc _)
  have hl0 := ldTape_blk HT0.out rfl
  unfold tp0 at hl0
  clear hs hL hm
  have HR : Hid (∃ r, r = ldP L t p) := Lib.hid ⟨_, rfl⟩
  go_enter Try.func67, Try.ntmps67
  go_wp2_with (go_at_call 91; ((refine (doA HL.out HM.out (HS.out.kept HK0.out) t _ _ _ _ _ _).mono ?_); rintro e w1 ⟨rfl, hk1⟩; (
    obtain ⟨r, hr⟩ := HR.out
    rw [show doP L t ⟨0, p, 0, 0, 0, 0⟩ = r from hr.symm]
    have HR' := Lib.hid hr
    clear hr
    have hz : w.heap.size + 3 ≤ w1.heap.size := by have := HC0.out.lt; have := hk1.size; omega
    have HT1 := (hk1.blk HT0.out (fun h => h)).alloc (.cells #[.int .u64 0, .int .u64 0, .bool false] 55)
    have HZ1 := (hk1.blk HZ0.out (fun h => h)).alloc (.cells #[.int .u64 0, .int .u64 0, .bool false] 55)
    have HC1 := (hk1.blk HC0.out (fun h => h)).alloc (.cells #[.int .u64 0, .int .u64 0, .bool false] 55)
    have HO1 : Blk (w1.alloc (.cells #[.int .u64 0, .int .u64 0, .bool false] 55)) w1.heap.size 55 #[.int .u64 0, .int .u64 0, .bool false] := Blk.new _ _ _
    have HK1 := (HK0.out.trans hk1).alloc (.cells #[.int .u64 0, .int .u64 0, .bool false] 55)
    obtain ⟨w2, hst2, hB2, hK2⟩ := stV_blk (ty := 47) (cells := tpA (.slice A m c) r.1) HT1 (by kernel_rfl) rfl (tpA_one _ _ rfl)
    obtain ⟨w3, hst3, hB3, hK3⟩ := stV_blk (ty := 55) (cells := r.2.a) (hK2.blk HO1 (by omega)) (by kernel_rfl) rfl (OutD.a_one _)
    have HZ3 := (hK3.blk (hK2.blk HZ1 (by omega)) (by omega)).drew
    have HC3 := (hK3.blk (hK2.blk HC1 (by omega)) (by omega)).drew
    have HT3 := Blk.drew (hK3.blk hB2 (by omega))
    have HO3 := hB3.drew
    have HK3 := (Kept.fresh9 (Kept.fresh9 HK1 hK2 (by omega)) hK3 (by omega)).drew
    obtain ⟨w4, hst4, hB4, hK4⟩ := stV_blk (ty := 47) (cells := tpA (.slice A m c) r.1) HZ3 (by kernel_rfl) rfl (tpA_one _ _ rfl)
    have HT4 := hK4.blk HT3 (by omega)
    have HO4 := hK4.blk HO3 (by omega)
    obtain ⟨w5, hst5, hB5, hK5⟩ := stV_blk (ty := 41) (cells := cellA r.2.val r.2.seq) (hK4.blk HC3 (by omega)) (by kernel_rfl) rfl (cellA_one _ _)
    have HT5 := hK5.blk HT4 (by omega)
    have HO5 := hK5.blk HO4 (by omega)
    have HB4 := Lib.hid (hK5.blk hB4 (by omega))
    have HB5 := Lib.hid hB5
    have HK5 := Lib.hid (Kept.fresh9 (Kept.fresh9 HK3 hK4 (by omega)) hK5 (by omega))
    have S3 := Lib.hid (And.intro (ldTape_blk HT3 rfl) (ldCell_at ⟨HO3.cell 0, HO3.cell 1⟩))
    have S4 := Lib.hid (And.intro (ldTape_blk HT4 rfl) (ldCell_at ⟨HO4.cell 0, HO4.cell 1⟩))
    have S5 := Lib.hid (And.intro (ldTape_blk HT5 rfl) (ldCell_at ⟨HO5.cell 0, HO5.cell 1⟩))
    clear hk1 HT1 HZ1 HC1 HO1 HK1 hB2 hK2 hB3 hK3 HZ3 HC3 HT3 HO3 HK3 hB4 hK4 HT4 HO4 hB5 hK5 HT5 HO5 hz hl0)))
  go_region_held3 (fun w' => (ldTape ⟨w.heap.size, 0, none⟩).run Try.prog w' = .ok (.agg (tpA (.slice A m c) r.1)) w' ∧ (ldCell ⟨w1.heap.size, 0, none⟩).run Try.prog w' = .ok (.agg (cellA r.2.val r.2.seq)) w')
        (first | with_reducible exact S5.out | with_reducible exact S4.out | with_reducible exact S3.out) (fail)
  go_wp2_with fail
  exact bodyPost_ret (v := ldV (.slice A m c) r) (results_cc _ _ (w.heap.size + 1) 47 (tpA (.slice A m c) r.1) (0, 0) _ rfl HB4.out Try.underlying47 rfl (by kernel_rfl) (w.heap.size + 1 + 1) 41 (cellA r.2.val r.2.seq) (0, 0) _ rfl HB5.out Try.underlying41 rfl (by kernel_rfl) rfl) rfl ⟨by rw [HR'.out], HK5.out⟩
end
section
attribute [local go_sem ↓] ldTape_eq ldOut_eq stTape_eq stOut_eq
set_option maxRecDepth 100000 in
set_option maxHeartbeats 2000000 in
theorem rStore_calls {w : World} {A : Option Addr} {m c : Nat} {L : List OutD} (hL : L.length = m) (hm : m ≤ maxLen) (hs : SlAt w A 3 (L.map OutD.cells)) (t : TpD) (p v s : Int) :
    Calls Try.prog 89 #[.agg (tpA (.slice A m c) t), .int .i64 p, .agg #[.int .u64 v, .int .u64 s]] w fun e w' => e = .returned (.agg (tpA (.slice A m c) (doP L t ⟨1, p, 0, 0, v, s⟩).1)) ∧ Kept (fun _ => False) w w' := by
  have HS := Lib.hid hs
  have HL := Lib.hid hL
  have HM := Lib.hid hm
  have HT0 : Hid (Blk (((w.alloc (.cells (tpA (.slice A m c) t) 47)).alloc (.cells #[.int .u64 v, .int .u64 s] 41)).alloc (.cells tp0 47)) w.heap.size 47 (tpA (.slice A m c) t)) := Lib.hid (((Blk.new _ _ _).alloc _).alloc _)
  have HZ0 : Hid (Blk (((w.alloc (.cells (tpA (.slice A m c) t) 47)).alloc (.cells #[.int .u64 v, .int .u64 s] 41)).alloc (.cells tp0 47)) (w.heap.size + 1 + 1) 47 tp0) := Lib.hid (Blk.new' _ _ _ _ (by simp))
  have HK0 : Hid (Kept (fun _ => False) w (((w.alloc (.cells (tpA (.slice A m c) t) 47)).alloc (.cells #[.int .u64 v, .int .u64 s] 41)).alloc (.cells tp0 47))) := Lib.hid ((((Kept.refl _ _).alloc _).alloc _).alloc _)
  have hl0 := ldTape_blk HT0.out rfl
  unfold tp0 at hl0
  clear hs hL hm
  have HR : Hid (∃ r, r = doP L t ⟨1, p, 0, 0, v, s⟩) := Lib.hid ⟨_, rfl⟩
  go_enter Try.func89, Try.ntmps89
  go_wp2_with (go_at_call 91; ((refine (doA HL.out HM.out (HS.out.kept HK0.out) t _ _ _ _ _ _).mono ?_); rintro e w1 ⟨rfl, hk1⟩; (
    obtain ⟨r, hr⟩ := HR.out
    rw [show doP L t ⟨1, p, 0, 0, v, s⟩ = r from hr.symm]
    have HR' := Lib.hid hr
    clear hr
    have HT1 := hk1.blk HT0.out (fun h => h)
    have HZ1 := hk1.blk HZ0.out (fun h => h)
    have HK1 := HK0.out.trans hk1
    obtain ⟨w2, hst2, hB2, hK2⟩ := stV_blk (ty := 47) (cells := tpA (.slice A m c) r.1) HT1 (by kernel_rfl) rfl (tpA_one _ _ rfl)
    have HZ2 := (hK2.blk HZ1 (by omega))
    have HK2 := Kept.fresh9 HK1 hK2 (by omega)
    obtain ⟨w3, hst3, hB3, hK3⟩ := stV_blk (ty := 47) (cells := tpA (.slice A m c) r.1) HZ2 (by kernel_rfl) rfl (tpA_one _ _ rfl)
    have hl2 := ldTape_blk hB2 rfl
    have HB3 := Lib.hid hB3
    have HK3 := Lib.hid (Kept.fresh9 HK2 hK3 (by omega))
    clear hk1 HT1 HZ1 HK1 hB2 hK2 HZ2 HK2 hB3 hK3 hl0)))
  exact bodyPost_ret (v := .agg (tpA (.slice A m c) r.1)) (results_cell_row rfl _ _ (w.heap.size + 1 + 1) 47 (tpA (.slice A m c) r.1) (0, 0) _ rfl HB3.out Try.underlying47 rfl (by kernel_rfl)) rfl ⟨by rw [HR'.out], HK3.out⟩
end
end Go.Proofs.Ythjkodjpopcjaaa
