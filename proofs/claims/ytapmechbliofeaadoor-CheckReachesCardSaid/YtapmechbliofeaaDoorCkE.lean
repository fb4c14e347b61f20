/- Layer 5 (check): goesOn, Reads. -/
import Derived.Test.YtapmechbliofeaaDoorCkD
namespace Go.Proofs.YtapmechbliofeaaDoor
open Go.RowKit

def natV (x : Nat) : Value := .int .i64 (x : Int)
/-- A row of numbers that was laid just now. -/
def NextPost (w : World) (s : List Nat) (e : Ending) (w' : World) : Prop :=
  Kept (fun _ => False) w w' ∧ ∃ A, e = .returned (.slice A s.length s.length) ∧ (0 < s.length → ∃ b, A = some ⟨b, 0, none⟩ ∧ w.heap.size ≤ b ∧ Blk w' b 3 (s.map natV).toArray)

set_option maxRecDepth 100000 in
set_option maxHeartbeats 1000000 in
theorem goesOn_calls (d : InsD) (k : Nat) (w : World) (hk : k < 300) (i0 : 0 ≤ d.imm) (i1 : d.op = 17 ∨ d.op = 18 ∨ d.op = 19 → d.imm < 300) :
    Calls Tryd.prog 24 #[insV d, .int .i64 (k : Int)] w (NextPost w (nexts d k)) := by
  have hnx : (d.op = 17 → nexts d k = [d.imm.toNat]) ∧ (d.op = 18 ∨ d.op = 19 → nexts d k = [d.imm.toNat, k + 1]) ∧ (d.op = 20 ∨ d.op = 21 → nexts d k = []) ∧ (¬ (d.op = 17 ∨ d.op = 18 ∨ d.op = 19 ∨ d.op = 20 ∨ d.op = 21) → nexts d k = [k + 1]) := by
    unfold nexts
    refine ⟨fun h => if_pos h, fun h => ?_, fun h => ?_, fun h => ?_⟩
    · rw [if_neg (by omega), if_pos h]
    · rw [if_neg (by omega), if_neg (by omega), if_pos h]
    · rw [if_neg (by omega), if_neg (by omega), if_neg (by omega)]
  generalize nexts d k = s at *
  obtain ⟨op, a, b, c, imm⟩ := d
  simp only [insV] at *
  obtain ⟨h17, h18, h20, h0⟩ := hnx
  have hB0 := Blk.new w 38 #[.int .i64 op, .int .i64 a, .int .i64 b, .int .i64 c, .int .u64 imm]
  have c0 : _ = some (Value.int .i64 op) := hB0.cell 0
  have c4 : _ = some (Value.int .u64 imm) := hB0.cell 4
  clear hB0
  by_cases g17 : op = 17
  · have e := h17 g17
    have i2 := i1 (.inl g17)
    subst g17 e
    have hi : ((imm.toNat : Nat) : Int) = imm := by omega
    clear h17 h18 h20 h0 i1
    go_enter Tryd.func24, Tryd.ntmps24
    go_wp2
    go_ret
    refine ⟨((Kept.refl _ _).alloc _).alloc _, _, rfl, fun _ => ⟨_, rfl, by simp, ?_⟩⟩
    have : ([imm.toNat].map natV).toArray = #[Value.int .i64 imm] := by simp [natV, hi]
    rw [this]
    exact Blk.new' _ _ _ _ (by simp)
  by_cases g18 : op = 18 ∨ op = 19
  · have e := h18 g18
    have i2 := i1 (by omega)
    subst e
    have hi : ((imm.toNat : Nat) : Int) = imm := by omega
    clear h17 h18 h20 h0 i1 g17
    rcases g18 with rfl | rfl
    all_goals
      go_enter Tryd.func24, Tryd.ntmps24
      go_wp2
      go_ret
      refine ⟨((Kept.refl _ _).alloc _).alloc _, _, rfl, fun _ => ⟨_, rfl, by simp, ?_⟩⟩
      have : ([imm.toNat, k + 1].map natV).toArray = #[Value.int .i64 imm, Value.int .i64 ((k : Int) + 1)] := by simp [natV, hi]
      rw [this]
      exact Blk.new' _ _ _ _ (by simp)
  by_cases g20 : op = 20 ∨ op = 21
  · have e := h20 g20
    subst e
    clear h17 h18 h20 h0 i1 g17 g18
    rcases g20 with rfl | rfl
    all_goals
      go_enter Tryd.func24, Tryd.ntmps24
      go_wp2
      go_ret
      exact ⟨(Kept.refl _ _).alloc _, _, rfl, fun h => absurd h (by decide)⟩
  · have e := h0 (by omega)
    subst e
    have n1 : (op == 17) = false := by simp; omega
    have n2 : (op == 18) = false := by simp; omega
    have n3 : (op == 19) = false := by simp; omega
    have n4 : (op == 20) = false := by simp; omega
    have n5 : (op == 21) = false := by simp; omega
    clear h17 h18 h20 h0 i1 g17 g18 g20
    go_enter Tryd.func24, Tryd.ntmps24
    go_wp2
    go_ret
    refine ⟨((Kept.refl _ _).alloc _).alloc _, _, rfl, fun _ => ⟨_, rfl, by simp, ?_⟩⟩
    have : ([k + 1].map natV).toArray = #[Value.int .i64 ((k : Int) + 1)] := by simp [natV]
    rw [this]
    exact Blk.new' _ _ _ _ (by simp)

theorem costP_pos (op : Int) : decide (0 < costP op) = !decide (costP op = 0) := by
  unfold costP
  repeat' split
  all_goals decide

set_option maxRecDepth 100000 in
set_option maxHeartbeats 4000000 in
theorem reads_calls (w : World) (A : Option Addr) (n c : Nat) (l : List InsD) (hn : l.length = n) (hm : n ≤ maxLen) (hl : InsAt w A l) (hi : ∀ d ∈ l, 0 ≤ d.imm ∧ d.imm < 18446744073709551616) (T : Tabs w) :
    Calls Tryd.prog 12 #[.slice A n c] w fun e w' => e = .returned (.bool (readsB l)) ∧ Kept (fun _ => False) w w' := by
  have HM := Lib.hid hm
  unfold maxLen at hm
  have HI := Lib.hid hi
  have HN := Lib.hid hn
  have HL := Lib.hid hl
  have HT := Lib.hid T
  clear hi hn hl T
  go_enter Tryd.func12, Tryd.ntmps12
  go_wp2_with fail
  go_loopw [7] (fun i wr => ∃ (k : Nat) (W : World), W = wr ∧ k ≤ n ∧ i = .int .i64 k ∧ (l.take k).all (fun d => decide (costP d.op = 0)) = true ∧ Kept (fun _ => False) w W) (fun i _ => n - (intOf i).toNat)
  case atStart => exact ⟨0, _, rfl, Nat.zero_le _, rfl, rfl, Kept.refl _ _⟩
  case round =>
    obtain ⟨k, wr, rfl, hk, rfl, hp, hK⟩ := hrel
    have HP := Lib.hid hp
    have HK := Lib.hid hK
    clear hp hK
    by_cases hlt : k < n
    · have hlt' : k < l.length := by have := HN.out; omega
      obtain ⟨sb, so, hA, hsb, c0, c1, c2, c3, c4⟩ := ins_cells (HL.out.kept HK.out) hlt'
      subst hA
      have HC := Lib.hid (costs_calls l[k].op)
      have hz := costP_pos l[k].op
      have HS := Lib.hid (List.take_succ_eq_append_getElem hlt')
      have HE := Lib.hid (List.getElem_mem hlt')
      generalize l[k] = d at *
      obtain ⟨op, a, b, c, imm⟩ := d
      simp only at *
      cases hc : decide (costP op = 0)
      · have HC0 := Lib.hid hc
        rw [hc] at hz
        have hz' : decide (0 < costP op) = true := hz
        obtain ⟨q, hq⟩ : ∃ q, costP op = q := ⟨_, rfl⟩
        rw [hq] at HC hz'
        clear hc hz hq
        go_wp2_with fail
        refine (HC.out _).mono ?_
        rintro e w' ⟨rfl, rfl⟩
        go_wp2_with fail
        go_ret
        refine ⟨?_, HK.out.alloc _⟩
        have : readsB l = false := by
          unfold readsB
          rw [show (l.all fun d => decide (costP d.op = 0)) = false from List.all_eq_false.2 ⟨_, HE.out, by simp [HC0.out]⟩]
          rfl
        rw [this]
        rfl
      · have hq : costP op = 0 := of_decide_eq_true hc
        rw [hq] at HC
        have HC0 := Lib.hid hc
        clear hc hz hq
        go_wp2_with fail
        refine (HC.out _).mono ?_
        rintro e w' ⟨rfl, rfl⟩
        go_wp2_with fail
        refine ⟨⟨k + 1, _, rfl, by omega, rfl, ?_, HK.out.alloc _⟩, by simp [intOf]; omega⟩
        rw [HS.out, List.all_append, HP.out]
        simp [HC0.out]
    · have hkn : k = n := by omega
      subst hkn
      have hall : readsB l = rightB l := by
        unfold readsB
        have := HP.out
        rw [List.take_of_length_le (by rw [HN.out]; exact Nat.le_refl _)] at this
        rw [this]
        rfl
      have HALL := Lib.hid hall
      clear hall
      go_wp2_with fail
      refine (right_calls _ A k c l HN.out HM.out (HL.out.kept HK.out) HI.out (HT.out.kept HK.out)).mono ?_
      rintro e w2 ⟨rfl, K2⟩
      go_wp2_with fail
      go_ret
      exact ⟨by rw [HALL.out]; rfl, HK.out.trans K2⟩

end Go.Proofs.YtapmechbliofeaaDoor
