/- Law 09's functions: sample, right, begin. -/
import Derived.Test.YthjkodjpopcjaaaVwC
import Derived.Test.YthjkodjpopcjaaaLyRb
import Derived.Test.YthjkodjpopcjaaaWsFm
namespace Go.Proofs.Ythjkodjpopcjaaa
open Go.RowKit
theorem Kept.fresh9 {a b w : World} {g : Nat} (h : Kept (fun _ => False) a b) (h' : Kept (fun x => x = g) b w) (hg : a.heap.size ≤ g) : Kept (fun _ => False) a w :=
  ⟨h'.os.trans h.os, h'.tape.trans h.tape, h'.output.trans h.output, Nat.le_trans h.size h'.size, fun k hk hn => (h'.block k (Nat.lt_of_lt_of_le hk h.size) (by omega)).trans (h.block k hk hn)⟩
/-- Whole numbers of a configuration, read out of memory. -/
def loadCfg (a : Addr) : Sem Value := loadVar 24 a
theorem loadCfg_eq (a : Addr) : loadVar 24 a = loadCfg a := rfl
def cfgA (c : CfgD) : Array Value := #[.int .i64 c.t, .int .i64 c.b, .int .i64 c.wr, .int .i64 c.f, .int .u64 c.first, .int .u64 c.last]
theorem loadCfg_blk {w : World} {B : Nat} {c : CfgD} (h : Blk w B 24 (cfgA c)) : (loadCfg ⟨B, 0, none⟩).run Try.prog w = .ok (.agg (cfgA c)) w :=
  run_loadVar_row w B 24 24 (cfgA c) (0, 0) _ h Try.underlying24 rfl (by kernel_rfl)
/-- A whole variable written. -/
def stV (t : TypeId) (a : Addr) (v : Value) : Sem Unit := storeVar t a v
theorem stMap_eq (a : Addr) (v : Value) : storeVar 31 a v = stV 31 a v := rfl
theorem stRv_eq (a : Addr) (v : Value) : storeVar 34 a v = stV 34 a v := rfl
theorem stV_blk {w : World} {g : Nat} {t ty : TypeId} {old cells : Array Value} (hb : Blk w g t old) (hi : (Try.prog.info? ty).map (·.size) = some cells.size) (hs : old.size = cells.size) (h1 : cells.all (·.oneCell') = true) :
    ∃ w', (stV ty ⟨g, 0, none⟩ (.agg cells)).run Try.prog w = .ok () w' ∧ Blk w' g t cells ∧ Kept (fun k => k = g) w w' :=
  ⟨_, run_storeVar_row (P := Try.prog) w g t ty old cells hb hi hs h1, Blk.setRow hb cells, (Kept.refl (fun k => k = g) w).setRow (.inl rfl) cells⟩
attribute [local go_sem ↓] loadMap_eq loadCfg_eq
/-- The document's view, as a value. -/
def rvA (c : CfgD) (who seq held : Int) (stale : Bool) : Array Value := #[.int .i64 c.t, .int .i64 c.b, .int .i64 c.wr, .int .i64 c.f, .int .u64 c.first, .int .u64 c.last, .int .i64 who, .int .u64 seq, .int .i64 held, .bool stale]
def rv0 : Array Value := #[.int .i64 0, .int .i64 0, .int .i64 0, .int .i64 0, .int .u64 0, .int .u64 0, .int .i64 0, .int .u64 0, .int .i64 0, .bool false]
theorem rvA_one (c : CfgD) (who seq held : Int) (stale : Bool) : (rvA c who seq held stale).all (·.oneCell') = true := by simp [rvA, Value.oneCell']

section
variable {P : Program}
theorem results_ctc {fn : Func} {p q r : Tmp} {ty ty2 : TypeId} (h : fn.results = #[.cell p ty, .tmp q, .cell r ty2]) (tmps : Array Value) (w : World) (g : Nat) (t : TypeId) (cs : Array Value) (fr : Nat × Nat) (d : TypeDesc)
    (hp : tmps.getD p undef = .pointer (some ⟨g, 0, none⟩)) (hg : w.heap[g]? = some (.cells cs t fr))
    (hu : P.underlying ty = some d) (hd : (match d with | .struct _ | .array _ _ => true | _ => false) = true) (hi : (P.info? ty).map (·.size) = some cs.size)
    (g2 : Nat) (t2 : TypeId) (cs2 : Array Value) (fr2 : Nat × Nat) (d2 : TypeDesc)
    (hp2 : tmps.getD r undef = .pointer (some ⟨g2, 0, none⟩)) (hg2 : w.heap[g2]? = some (.cells cs2 t2 fr2))
    (hu2 : P.underlying ty2 = some d2) (hd2 : (match d2 with | .struct _ | .array _ _ => true | _ => false) = true) (hi2 : (P.info? ty2).map (·.size) = some cs2.size) :
    (results fn tmps).run P w = .ok (.tuple #[.agg cs, tmps.getD q undef, .agg cs2]) w := by
  have hp' : tmps[p]?.getD undef = .pointer (some ⟨g, 0, none⟩) := by simpa using hp
  have hp2' : tmps[r]?.getD undef = .pointer (some ⟨g2, 0, none⟩) := by simpa using hp2
  simp [results, h, hp', hp2', asAddr, run_loadVar_row w g t ty cs fr d hg hu hd hi, run_loadVar_row w g2 t2 ty2 cs2 fr2 d2 hg2 hu2 hd2 hi2]
end
set_option maxRecDepth 100000 in
theorem refNew9_calls (c : CfgD) (who seq : Int) (w : World) : Calls Try.prog 58 #[cfgV c, .int .i64 who, .int .u64 seq] w fun e w' =>
    e = .returned (.agg (rvA c who seq (-1) false)) ∧ Kept (fun _ => False) w w' := by
  have hl : (loadCfg ⟨w.heap.size, 0, none⟩).run Try.prog ((w.alloc (.cells (cfgA c) 24)).alloc (.cells rv0 34)) = .ok (.agg (cfgA c)) ((w.alloc (.cells (cfgA c) 24)).alloc (.cells rv0 34)) := loadCfg_blk ((Blk.new _ _ _).alloc _)
  unfold cfgA rv0 at hl
  unfold cfgV
  go_enter Try.func58, Try.ntmps58
  go_wp2_with fail
  exact bodyPost_ret (v := .agg _) (results_cell_row rfl _ _ (w.heap.size + 1) 34 (rvA c who seq (-1) false) (0, 0) _ rfl (Blk.new' _ _ _ _ (by simp)) Try.underlying34 rfl (by kernel_rfl)) rfl ⟨rfl, ((Kept.refl _ _).alloc _).alloc _⟩
attribute [local go_sem ↓] stMap_eq stRv_eq
theorem ofA (c : CfgD) (h : c.Ok) (w : World) : Calls Try.prog 19 #[.agg (cfgA c)] w fun e w' => e = .returned (.tuple #[.agg (mapA c), .int .i64 0]) ∧ Kept (fun _ => False) w w' := ofK_yes c h w
theorem newA (c : CfgD) (who seq : Int) (w : World) : Calls Try.prog 54 #[.agg (mapA c), .int .i64 who, .int .u64 seq] w fun e w' => ∃ B, e = .returned (.pointer (some ⟨B, 0, none⟩)) ∧ VwS w' B c ⟨who, seq, -1, 0, 0, 0, 0, 1⟩ ∧ Kept (fun _ => False) w w' ∧ w.heap.size ≤ B := vwNew_calls c who seq w
theorem rightA (c : CfgD) (who seq : Int) (w : World) : Calls Try.prog 58 #[.agg (cfgA c), .int .i64 who, .int .u64 seq] w fun e w' => e = .returned (.agg (rvA c who seq (-1) false)) ∧ Kept (fun _ => False) w w' := refNew9_calls c who seq w
set_option maxRecDepth 100000 in
set_option maxHeartbeats 2000000 in
theorem right9_calls (c : CfgD) (h : c.Ok) (who seq : Int) (w : World) : Calls Try.prog 11 #[cfgV c, .int .i64 who, .int .u64 seq] w fun e w' => ∃ (B : Nat) (u : Int), 0 ≤ u ∧ u < c.t ∧ u = (bits BinOp.and IntKind.i64 who 255) % c.t ∧
    e = .returned (.tuple #[mapV c, .pointer (some ⟨B, 0, none⟩), .agg (rvA c u seq (-1) false)]) ∧
    VwS w' B c ⟨u, seq, -1, 0, 0, 0, 0, 1⟩ ∧ Kept (fun _ => False) w w' ∧ w.heap.size ≤ B := by
  obtain ⟨r, hr, er⟩ := andB_bound who 255 (by decide)
  have t1 := h.t1
  have t8 := h.t8
  have HO := Lib.hid h
  have hm : (r : Int).tmod c.t = r % c.t := Int.tmod_eq_emod_of_nonneg (by omega)
  have hne : ¬ c.t = 0 := by omega
  have q0 : 0 ≤ (r : Int) % c.t := Int.emod_nonneg _ (by omega)
  have q1 : (r : Int) % c.t < c.t := Int.emod_lt_of_pos _ (by omega)
  have er' : bits BinOp.and IntKind.i64 who 255 = (r : Int) := er
  have hl0 : (loadCfg ⟨w.heap.size, 0, none⟩).run Try.prog (((w.alloc (.cells (cfgA c) 24)).alloc (.cells zeroA 31)).alloc (.cells rv0 34)) = .ok (.agg (cfgA c)) (((w.alloc (.cells (cfgA c) 24)).alloc (.cells zeroA 31)).alloc (.cells rv0 34)) := loadCfg_blk (((Blk.new _ _ _).alloc _).alloc _)
  have HA : Hid (Blk (((w.alloc (.cells (cfgA c) 24)).alloc (.cells zeroA 31)).alloc (.cells rv0 34)) w.heap.size 24 (cfgA c)) := Lib.hid (((Blk.new _ _ _).alloc _).alloc _)
  have HB : Hid (Blk (((w.alloc (.cells (cfgA c) 24)).alloc (.cells zeroA 31)).alloc (.cells rv0 34)) (w.heap.size + 1) 31 zeroA) := Lib.hid ((Blk.new' _ _ _ _ (by simp)).alloc _)
  have HD : Hid (Blk (((w.alloc (.cells (cfgA c) 24)).alloc (.cells zeroA 31)).alloc (.cells rv0 34)) (w.heap.size + 1 + 1) 34 rv0) := Lib.hid (Blk.new' _ _ _ _ (by simp))
  have hK0 := Lib.hid ((((Kept.refl (fun _ => False) w).alloc (.cells (cfgA c) 24)).alloc (.cells zeroA 31)).alloc (.cells rv0 34))
  unfold cfgA zeroA rv0 at hl0
  clear h er
  unfold cfgV
  go_enter Try.func11, Try.ntmps11
  go_wp2_with (first
    | (go_at_call 19; ((refine (ofA c HO.out _).mono ?_); rintro e w1 ⟨rfl, hk1⟩; have HA1 := Lib.hid (hk1.blk HA.out (fun h => h)); have HB1 := Lib.hid (hk1.blk HB.out (fun h => h)); have HD1 := Lib.hid (hk1.blk HD.out (fun h => h)); have HK1 := Lib.hid (hK0.out.trans hk1); clear hk1 hl0))
    | (refine wpList_store_blk ?_ 31 (.tmp 9) (.tmp 14) ?_ w1.heap.size ?_ 31 zeroA (mapA c) ?_ ?_ ?_ ?_ ?_ ?_; rfl; rfl; rfl; rfl; exact Blk.new _ _ _; kernel_rfl; rfl; exact mapA_one c; intro w2 hB2 hK2; have hl2 := loadMap_arr hB2 rfl; have HM2 := Lib.hid hB2; have HA2 := Lib.hid (hK2.blk (HA1.out.alloc _) (by have := HA1.out.lt; omega)); have HB2 := Lib.hid (hK2.blk (HB1.out.alloc _) (by have := HB1.out.lt; omega)); have HD2 := Lib.hid (hK2.blk (HD1.out.alloc _) (by have := HD1.out.lt; omega)); have HK2 := Lib.hid (Kept.fresh9 (HK1.out.alloc _) hK2 HK1.out.size); have k0 : _ = some (Value.int .i64 c.t) := HA2.out.cell 0; have hlc := loadCfg_blk HA2.out; clear hB2 hK2))
  have S2 : Hid ((loadMap ⟨w1.heap.size, 0, none⟩).run Try.prog w2.drew = .ok (.agg (mapA c)) w2.drew ∧ (loadCfg ⟨w.heap.size, 0, none⟩).run Try.prog w2.drew = .ok (.agg (cfgA c)) w2.drew) := Lib.hid ⟨loadMap_arr HM2.out.drew rfl, loadCfg_blk HA2.out.drew⟩
  have HL : Hid (w.heap.size + 2 < w1.heap.size) := Lib.hid (by have := HD1.out.lt; omega)
  have HL2 : Hid (w1.heap.size < w2.heap.size) := Lib.hid (by have := HM2.out.lt; omega)
  go_region_held3 (fun w' => (loadMap ⟨w1.heap.size, 0, none⟩).run Try.prog w' = .ok (.agg (mapA c)) w' ∧ (loadCfg ⟨w.heap.size, 0, none⟩).run Try.prog w' = .ok (.agg (cfgA c)) w')
    (with_reducible (first | exact S6.out | exact S5.out | exact S4.out | exact S3.out | exact S2.out))
    ((first
      | (go_at_call 54; ((refine (newA c _ _ _).mono ?_); rintro e w3 ⟨B, rfl, hB, hk3, hlt⟩; have HM3 := Lib.hid (hk3.blk HM2.out.drew (fun h => h)); have HA3 := Lib.hid (hk3.blk HA2.out.drew (fun h => h)); have HB3 := Lib.hid (hk3.blk HB2.out.drew (fun h => h)); have HD3 := Lib.hid (hk3.blk HD2.out.drew (fun h => h)); have HV3 := Lib.hid hB; have HK3 := Lib.hid (HK2.out.drew.trans hk3); have S3 : Hid ((loadMap ⟨w1.heap.size, 0, none⟩).run Try.prog w3 = .ok (.agg (mapA c)) w3 ∧ (loadCfg ⟨w.heap.size, 0, none⟩).run Try.prog w3 = .ok (.agg (cfgA c)) w3) := Lib.hid ⟨loadMap_arr HM3.out rfl, loadCfg_blk HA3.out⟩; have HLt : Hid (w2.heap.size ≤ B) := Lib.hid hlt; clear hk3 hB hlt))
      | (go_at_call 58; ((refine (rightA c _ _ _).mono ?_); rintro e w4 ⟨rfl, hk4⟩; have HM4 := Lib.hid (hk4.blk HM3.out (fun h => h)); have HA4 := Lib.hid (hk4.blk HA3.out (fun h => h)); have HB4 := Lib.hid (hk4.blk HB3.out (fun h => h)); have HD4 := Lib.hid (hk4.blk HD3.out (fun h => h)); have HV4 := Lib.hid (hk4.blk HV3.out (fun h => h)); have HK4 := Lib.hid (HK3.out.trans hk4); have S4 : Hid ((loadMap ⟨w1.heap.size, 0, none⟩).run Try.prog w4 = .ok (.agg (mapA c)) w4 ∧ (loadCfg ⟨w.heap.size, 0, none⟩).run Try.prog w4 = .ok (.agg (cfgA c)) w4) := Lib.hid ⟨loadMap_arr HM4.out rfl, loadCfg_blk HA4.out⟩; clear hk4; obtain ⟨w5, hst5, hB5, hK5⟩ := stV_blk (ty := 31) (cells := mapA c) HB4.out (by kernel_rfl) rfl (mapA_one c); have HM5 := Lib.hid (hK5.blk HM4.out (by have := HL.out; omega)); have HA5 := Lib.hid (hK5.blk HA4.out (by omega)); have HD5 := Lib.hid (hK5.blk HD4.out (by omega)); have HV5 := Lib.hid (hK5.blk HV4.out (by have := HL.out; have := HL2.out; have := HLt.out; omega)); have HK5 := Lib.hid (Kept.fresh9 HK4.out hK5 (by omega)); have S5 : Hid ((loadMap ⟨w1.heap.size, 0, none⟩).run Try.prog w5 = .ok (.agg (mapA c)) w5 ∧ (loadCfg ⟨w.heap.size, 0, none⟩).run Try.prog w5 = .ok (.agg (cfgA c)) w5) := Lib.hid ⟨loadMap_arr HM5.out rfl, loadCfg_blk HA5.out⟩; obtain ⟨w6, hst6, hB6, hK6⟩ := stV_blk (ty := 34) (cells := rvA c (r % c.t) seq (-1) false) HD5.out (by kernel_rfl) rfl (rvA_one _ _ _ _ _); have HM6 := Lib.hid (hK6.blk HM5.out (by have := HL.out; omega)); have HA6 := Lib.hid (hK6.blk HA5.out (by omega)); have HB6 := Lib.hid (hK6.blk hB5 (by omega)); have HD6 := Lib.hid hB6; have HV6 := Lib.hid (hK6.blk HV5.out (by have := HL.out; have := HL2.out; have := HLt.out; omega)); have HK6 := Lib.hid (Kept.fresh9 HK5.out hK6 (by omega)); have S6 : Hid ((loadMap ⟨w1.heap.size, 0, none⟩).run Try.prog w6 = .ok (.agg (mapA c)) w6 ∧ (loadCfg ⟨w.heap.size, 0, none⟩).run Try.prog w6 = .ok (.agg (cfgA c)) w6) := Lib.hid ⟨loadMap_arr HM6.out rfl, loadCfg_blk HA6.out⟩; clear hB5 hK5 hB6 hK6))))
  go_wp2_with fail
  refine bodyPost_ret (v := .tuple #[.agg (mapA c), .pointer (some ⟨B, 0, none⟩), .agg (rvA c (r % c.t) seq (-1) false)]) (results_ctc (q := 7) rfl _ _ (w.heap.size + 1) 31 (mapA c) (0, 0) _ rfl HB6.out Try.underlying31 rfl (by kernel_rfl) (w.heap.size + 1 + 1) 34 (rvA c (r % c.t) seq (-1) false) (0, 0) _ rfl HD6.out Try.underlying34 rfl (by kernel_rfl)) rfl ⟨B, r % c.t, q0, q1, by rw [er'], rfl, HV6.out, HK6.out, by have := HL.out; have := HL2.out; have := HLt.out; omega⟩
end Go.Proofs.Ythjkodjpopcjaaa
