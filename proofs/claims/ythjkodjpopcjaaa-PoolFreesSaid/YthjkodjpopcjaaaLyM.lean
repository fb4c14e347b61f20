/- Layer 7 (lay): a map as a value; small walks: Cfg, Limit, Cap, Stride, Size, within, mayBe. -/
import Derived.Test.YthjkodjpopcjaaaBase
import Derived.Test.YthjkodjpopcjaaaLyA
import Derived.RegionTactic
import Derived.ChangeAlike
import Derived.Lib.Hide
import Derived.Deep.QuietTactic
import Derived.BigQuiet
import Derived.Deep.RegionHeld3
import Derived.Deep.RegionWith
import Derived.Deep.DeepCutAuto
namespace Go.Proofs.Ythjkodjpopcjaaa
open Go.RowKit

def cfgV (c : CfgD) : Value := .agg #[.int .i64 c.t, .int .i64 c.b, .int .i64 c.wr, .int .i64 c.f, .int .u64 c.first, .int .u64 c.last]
/-- A map whose places are x. -/
def mapXA (c : CfgD) (x : Fin 17 → Value) : Array Value := #[.int .i64 c.t, .int .i64 c.b, .int .i64 c.wr, .int .i64 c.f, .int .u64 c.first, .int .u64 c.last, x 0, x 1, x 2, x 3, x 4, x 5, x 6, x 7, x 8, x 9, x 10, x 11, x 12, x 13, x 14, x 15, x 16]
def mapX (c : CfgD) (x : Fin 17 → Value) : Value := .agg (mapXA c x)
def begX (c : CfgD) (k : Fin 17) : Value := .int .i64 (c.beg k.val)
def mapA (c : CfgD) : Array Value := #[.int .i64 c.t, .int .i64 c.b, .int .i64 c.wr, .int .i64 c.f, .int .u64 c.first, .int .u64 c.last,
  .int .i64 0, .int .i64 1, .int .i64 2, .int .i64 6, .int .i64 7, .int .i64 8, .int .i64 9, .int .i64 c.ans, .int .i64 (c.ans + 1), .int .i64 (c.ans + 2), .int .i64 c.root,
  .int .i64 c.life, .int .i64 c.top, .int .i64 c.stack, .int .i64 c.limp, .int .i64 c.limbo, .int .i64 c.word]
def mapV (c : CfgD) : Value := .agg (mapA c)
theorem mapV_eq (c : CfgD) : mapV c = mapX c (begX c) := rfl
def begA (c : CfgD) : Array Value := #[.int .i64 0, .int .i64 1, .int .i64 2, .int .i64 6, .int .i64 7, .int .i64 8, .int .i64 9, .int .i64 c.ans, .int .i64 (c.ans + 1), .int .i64 (c.ans + 2), .int .i64 c.root,
  .int .i64 c.life, .int .i64 c.top, .int .i64 c.stack, .int .i64 c.limp, .int .i64 c.limbo, .int .i64 c.word]
theorem begA_one (c : CfgD) : (begA c).all (·.oneCell') = true := by simp [begA, Value.oneCell']
theorem mapA_one (c : CfgD) : (mapA c).all (·.oneCell') = true := by simp [mapA, Value.oneCell']
theorem mapA_beg (c : CfgD) {k : Nat} (hk : k < 17) : (mapA c)[6 + k]? = some (.int .i64 (c.beg k)) := by
  match k, hk with
  | 0, _ | 1, _ | 2, _ | 3, _ | 4, _ | 5, _ | 6, _ | 7, _ | 8, _ | 9, _ | 10, _ | 11, _ | 12, _ | 13, _ | 14, _ | 15, _ | 16, _ => rfl
  | n + 17, hn => omega
/-- All cells of a map. -/
def MapS (w : World) (B : Nat) (c : CfgD) (x : Fin 17 → Value) : Prop :=
    w.cell? ⟨B, 0, none⟩ = some (.int .i64 c.t) ∧
    w.cell? ⟨B, 1, none⟩ = some (.int .i64 c.b) ∧
    w.cell? ⟨B, 2, none⟩ = some (.int .i64 c.wr) ∧
    w.cell? ⟨B, 3, none⟩ = some (.int .i64 c.f) ∧
    w.cell? ⟨B, 4, none⟩ = some (.int .u64 c.first) ∧
    w.cell? ⟨B, 5, none⟩ = some (.int .u64 c.last) ∧
    w.cell? ⟨B, 6, none⟩ = some (x 0) ∧
    w.cell? ⟨B, 7, none⟩ = some (x 1) ∧
    w.cell? ⟨B, 8, none⟩ = some (x 2) ∧
    w.cell? ⟨B, 9, none⟩ = some (x 3) ∧
    w.cell? ⟨B, 10, none⟩ = some (x 4) ∧
    w.cell? ⟨B, 11, none⟩ = some (x 5) ∧
    w.cell? ⟨B, 12, none⟩ = some (x 6) ∧
    w.cell? ⟨B, 13, none⟩ = some (x 7) ∧
    w.cell? ⟨B, 14, none⟩ = some (x 8) ∧
    w.cell? ⟨B, 15, none⟩ = some (x 9) ∧
    w.cell? ⟨B, 16, none⟩ = some (x 10) ∧
    w.cell? ⟨B, 17, none⟩ = some (x 11) ∧
    w.cell? ⟨B, 18, none⟩ = some (x 12) ∧
    w.cell? ⟨B, 19, none⟩ = some (x 13) ∧
    w.cell? ⟨B, 20, none⟩ = some (x 14) ∧
    w.cell? ⟨B, 21, none⟩ = some (x 15) ∧
    w.cell? ⟨B, 22, none⟩ = some (x 16)
theorem MapS.of {w : World} {B : Nat} {c : CfgD} {x : Fin 17 → Value} (h : Blk w B 31 (mapXA c x)) : MapS w B c x :=
  ⟨h.cell 0, h.cell 1, h.cell 2, h.cell 3, h.cell 4, h.cell 5, h.cell 6, h.cell 7, h.cell 8, h.cell 9, h.cell 10, h.cell 11, h.cell 12, h.cell 13, h.cell 14, h.cell 15, h.cell 16, h.cell 17, h.cell 18, h.cell 19, h.cell 20, h.cell 21, h.cell 22⟩
theorem MapS.load {w : World} {B : Nat} {c : CfgD} {x : Fin 17 → Value} (h : MapS w B c x) : (loadVar 31 ⟨B, 0, none⟩).run Try.prog w = .ok (mapX c x) w := by
  have hl : (loadCells ⟨B, 0, none⟩ (mapXA c x).toList.length).run Try.prog w = .ok (mapXA c x).toList.toArray w :=
    run_loadCells_list (P := Try.prog) w ⟨B, 0, none⟩ (mapXA c x).toList (fun j v hv => by
      have hadd : (⟨B, 0, none⟩ : Addr).add j = ⟨B, j, none⟩ := by unfold Addr.add; split <;> simp_all
      rw [hadd]
      obtain ⟨h0, h1, h2, h3, h4, h5, h6, h7, h8, h9, h10, h11, h12, h13, h14, h15, h16, h17, h18, h19, h20, h21, h22⟩ := h
      match j with
      | 0 => rw [h0]; exact hv
      | 1 => rw [h1]; exact hv
      | 2 => rw [h2]; exact hv
      | 3 => rw [h3]; exact hv
      | 4 => rw [h4]; exact hv
      | 5 => rw [h5]; exact hv
      | 6 => rw [h6]; exact hv
      | 7 => rw [h7]; exact hv
      | 8 => rw [h8]; exact hv
      | 9 => rw [h9]; exact hv
      | 10 => rw [h10]; exact hv
      | 11 => rw [h11]; exact hv
      | 12 => rw [h12]; exact hv
      | 13 => rw [h13]; exact hv
      | 14 => rw [h14]; exact hv
      | 15 => rw [h15]; exact hv
      | 16 => rw [h16]; exact hv
      | 17 => rw [h17]; exact hv
      | 18 => rw [h18]; exact hv
      | 19 => rw [h19]; exact hv
      | 20 => rw [h20]; exact hv
      | 21 => rw [h21]; exact hv
      | 22 => rw [h22]; exact hv
      | n + 23 => simp [mapXA] at hv)
  have hagg : (isAgg 31).run Try.prog w = .ok true w := by kernel_rfl
  have hq : (Try.prog.info? 31).map (·.size) = some 23 := by kernel_rfl
  cases hi : Try.prog.info? 31 with
  | none => simp [hi] at hq
  | some i =>
    have hs : i.size = 23 := by simpa [hi] using hq
    simp only [Array.length_toList, Array.toArray_toList] at hl
    have h23 : (mapXA c x).size = 23 := rfl
    rw [h23] at hl
    simp [loadVar, Sem.run_bind, hagg, sizeOf, typeInfo, hi, hs, hl, mapX]
/-- A whole map, read out of memory. -/
def loadMap (a : Addr) : Sem Value := loadVar 31 a
theorem loadMap_eq (a : Addr) : loadVar 31 a = loadMap a := rfl
theorem loadMap_blk {w : World} {B : Nat} {c : CfgD} {x : Fin 17 → Value} (h : Blk w B 31 (mapXA c x)) : (loadMap ⟨B, 0, none⟩).run Try.prog w = .ok (mapX c x) w := (MapS.of h).load
theorem keptBelow {w w' : World} (h : Below w.heap.size w w') : Kept (fun _ => False) w w' := (Kept.below h).mono (fun k hk h => by omega)
theorem belowKept {w w' : World} (h : Kept (fun _ => False) w w') : Below w.heap.size w w' := h.toBelow (Nat.le_refl _) (fun _ _ h => h)
theorem MapS.keep {w w' : World} {B : Nat} {c : CfgD} {x : Fin 17 → Value} (k : Below w.heap.size w w') (h : MapS w B c x) : MapS w' B c x :=
  have t : ∀ {p : Addr} {v : Value}, w.cell? p = some v → w'.cell? p = some v := fun {_ _} hc => (keptBelow k).cell_some (fun h => h) hc
  ⟨t h.1, t h.2.1, t h.2.2.1, t h.2.2.2.1, t h.2.2.2.2.1, t h.2.2.2.2.2.1, t h.2.2.2.2.2.2.1, t h.2.2.2.2.2.2.2.1, t h.2.2.2.2.2.2.2.2.1, t h.2.2.2.2.2.2.2.2.2.1, t h.2.2.2.2.2.2.2.2.2.2.1, t h.2.2.2.2.2.2.2.2.2.2.2.1, t h.2.2.2.2.2.2.2.2.2.2.2.2.1, t h.2.2.2.2.2.2.2.2.2.2.2.2.2.1, t h.2.2.2.2.2.2.2.2.2.2.2.2.2.2.1, t h.2.2.2.2.2.2.2.2.2.2.2.2.2.2.2.1, t h.2.2.2.2.2.2.2.2.2.2.2.2.2.2.2.2.1, t h.2.2.2.2.2.2.2.2.2.2.2.2.2.2.2.2.2.1, t h.2.2.2.2.2.2.2.2.2.2.2.2.2.2.2.2.2.2.1, t h.2.2.2.2.2.2.2.2.2.2.2.2.2.2.2.2.2.2.2.1, t h.2.2.2.2.2.2.2.2.2.2.2.2.2.2.2.2.2.2.2.2.1, t h.2.2.2.2.2.2.2.2.2.2.2.2.2.2.2.2.2.2.2.2.2.1, t h.2.2.2.2.2.2.2.2.2.2.2.2.2.2.2.2.2.2.2.2.2.2⟩

theorem ret_i {a b : Int} (h : a = b) : Ending.returned (.int .i64 a) = .returned (.int .i64 b) := by rw [h]
/-- Is a number within bounds? -/
def win (n a b : Int) : Bool := decide (a ≤ n) && decide (n ≤ b)
theorem win_yes {n a b : Int} (h : a ≤ n) (h2 : n ≤ b) : win n a b = true := by simp [win, h, h2]
theorem win_iff {n a b : Int} : win n a b = true ↔ a ≤ n ∧ n ≤ b := by simp [win]
theorem win_not {n a b : Int} : win n a b = false ↔ ¬ (a ≤ n ∧ n ≤ b) := by rw [← win_iff]; simp
theorem ok_win (c : CfgD) : decide c.Ok = (win c.t 1 8 && win c.b 1 64 && win c.wr 0 64 && win c.f 1 1000 && decide (c.first ≤ c.last) && decide (c.last ≤ 140737488355328)) := by
  rw [Bool.eq_iff_iff]
  simp only [decide_eq_true_eq, Bool.and_eq_true, win_iff]
  exact ⟨fun h => ⟨⟨⟨⟨⟨⟨h.t1, h.t8⟩, h.b1, h.b64⟩, h.w0, h.w64⟩, h.f1, h.f1000⟩, h.fl⟩, h.l47⟩, fun ⟨⟨⟨⟨⟨⟨a, b⟩, d, e⟩, f, g⟩, h, i⟩, j⟩, k⟩ => ⟨a, b, d, e, f, g, h, i, j, k⟩⟩
set_option maxHeartbeats 400000 in
theorem within_calls (n a b : Int) (w : World) :
    Calls Try.prog 82 #[.int .i64 n, .int .i64 a, .int .i64 b] w fun e w' => e = .returned (.bool (win n a b)) ∧ w = w' := by
  by_cases h : a ≤ n
  · by_cases h2 : n ≤ b
    · go_enter Try.func82, Try.ntmps82
      go_wp2
      go_ret
      exact ⟨by simp [h, h2, win], rfl⟩
    · go_enter Try.func82, Try.ntmps82
      go_wp2
      go_ret
      exact ⟨by simp [h, h2, win], rfl⟩
  · go_enter Try.func82, Try.ntmps82
    go_wp2
    go_ret
    exact ⟨by have hw : win n a b = false := win_not.2 (by omega)
              rw [hw]; first | (simp; done) | (simp; omega), rfl⟩

set_option maxHeartbeats 400000 in
theorem cfg_calls (c : CfgD) (w : World) : Calls Try.prog 70 #[mapV c] w fun e w' => e = .returned (cfgV c) ∧ Below w.heap.size w w' := by
  unfold mapV mapA
  go_enter Try.func70, Try.ntmps70
  go_wp2
  exact bodyPost_ret (v := cfgV c) (by simp [results, Try.results70, go_sem, cfgV]) rfl ⟨rfl, ((Below.refl _ _).alloc (Nat.le_refl _) _).alloc (by simp) _⟩

set_option maxHeartbeats 400000 in
theorem limit_calls (c : CfgD) (x : Fin 17 → Value) (h : c.Bd) (w : World) : Calls Try.prog 50 #[mapX c x] w fun e w' => e = .returned (.int .i64 c.lim) ∧ Below w.heap.size w w' := by
  obtain ⟨t1, t8, b1, b64, w0, w64, l0, l1, w3, w5, s0, s1⟩ := h
  have l0' : 1 ≤ c.t * (c.wr + 1) := l0
  have l1' : c.t * (c.wr + 1) ≤ 520 := l1
  unfold mapX mapXA
  go_enter Try.func50, Try.ntmps50
  go_wp2
  go_ret
  exact ⟨rfl, ((Below.refl _ _).alloc (Nat.le_refl _) _)⟩
end Go.Proofs.Ythjkodjpopcjaaa
