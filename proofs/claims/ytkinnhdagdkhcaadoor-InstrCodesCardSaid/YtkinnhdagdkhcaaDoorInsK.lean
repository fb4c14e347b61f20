/- Layer 3 (instr): Of, the document's Name; bytes as a string. -/
import Derived.Test.YtkinnhdagdkhcaaDoorInsJ
import Derived.Laws.BytesString
import Derived.Laws.Cells
namespace Go.Proofs.YtkinnhdagdkhcaaDoor
open Go.RowKit

def strL (l : List Int) : ByteArray := ⟨(l.map fun x => UInt8.ofNat x.toNat).toArray⟩
theorem foldl_push : ∀ (l : List Int) (s : ByteArray), (l.foldl (fun r n => r.push (UInt8.ofNat n.toNat)) s) = ⟨s.data ++ (l.map fun x => UInt8.ofNat x.toNat).toArray⟩
  | [], s => by simp
  | x :: l, s => by
    rw [List.foldl_cons, foldl_push l]
    simp [ByteArray.push]
theorem strL_inj {a b : List Int} (ha : ∀ x ∈ a, 0 ≤ x ∧ x < 256) (hb : ∀ x ∈ b, 0 ≤ x ∧ x < 256) (h : (strL a).toList = (strL b).toList) : a = b := by
  unfold strL at h
  rw [ByteArray.toList_mk, ByteArray.toList_mk] at h
  induction a generalizing b with
  | nil => cases b with | nil => rfl | cons => simp at h
  | cons x a ih =>
    cases b with
    | nil => simp at h
    | cons y b =>
      simp only [List.map_cons, List.cons.injEq] at h
      have hx := ha x (List.mem_cons_self ..)
      have hy := hb y (List.mem_cons_self ..)
      have e : x = y := by
        have := congrArg UInt8.toNat h.1
        simp at this
        omega
      rw [e, ih (fun z hz => ha z (List.mem_cons_of_mem _ hz)) (fun z hz => hb z (List.mem_cons_of_mem _ hz)) h.2]
theorem addr_off (b off j : Nat) : (⟨b, off, none⟩ : Addr).add j = ⟨b, off + j, none⟩ := by
  unfold Addr.add
  split <;> simp_all
theorem conv_bytes (W : World) (A : Option Addr) (n c : Nat) (l : List Int) (hl : l.length = n) (hA : n = 0 → A = none ∨ ∃ b off, A = some ⟨b, off, none⟩) (h : BytesAt W A l) :
    (convert 23 9 (.slice A n c)).run Tryd.prog W = .ok (.string (strL l)) W := by
  rw [run_convert_bytes_string W 23 9 5 A n c Tryd.underlying23 Tryd.underlying5 Tryd.underlying9]
  have key : ∀ a : Addr, (∀ k x, l[k]? = some x → W.cell? (a.add k) = some (.int .u8 x)) → (Conv.bytesToString (.slice (some a) n c)).run Tryd.prog W = .ok (.string (strL l)) W := fun a hc => by
    rw [run_bytesToString W a n c l ?_, foldl_push]
    · simp [strL, ByteArray.empty, ByteArray.emptyWithCapacity]
      rfl
    · have := run_loadCells_list (P := Tryd.prog) (w := W) a (bv l) (fun j v hv => by
        simp only [bv, List.getElem?_map, Option.map_eq_some_iff] at hv
        obtain ⟨x, hx, rfl⟩ := hv
        exact hc j x hx)
      rw [bv_length, hl] at this
      exact this
  rcases Nat.eq_zero_or_pos n with h0 | h0
  · subst h0
    obtain rfl := List.eq_nil_of_length_eq_zero hl
    rcases hA rfl with rfl | ⟨b, off, rfl⟩
    · simp [Conv.bytesToString, strL, Sem.run_pure]
      rfl
    · exact key _ (by simp)
  · obtain ⟨b, off, rfl, _, hc⟩ := h (by omega)
    refine key _ (fun k x hx => ?_)
    rw [addr_off]
    exact hc k x hx

/-- The kind of a name. -/
def ofS (l : List UInt8) : Int × Bool := match (List.range 22).find? (fun k => nmS k == l) with | some k => ((k : Int), true) | none => (0, false)

theorem of_calls (s : ByteArray) (w : World) (T : Tabs w) : Calls Tryd.prog 20 #[.string s] w fun e w' => e = .returned (.tuple #[.int .i64 (ofS s.toList).1, .bool (ofS s.toList).2]) ∧ w = w' := by
  have HT := Lib.hid T
  clear T
  go_enter Tryd.func20, Tryd.ntmps20
  go_wp2
  go_loop [5] (fun i => ∃ k : Nat, k ≤ 22 ∧ i = .int .i64 k ∧ ∀ j, j < k → (nmS j == s.toList) = false) (fun i => 22 - (intOf i).toNat)
  case atStart => exact ⟨0, by omega, rfl, fun j hj => absurd hj (by omega)⟩
  case round =>
    obtain ⟨k, hk, rfl, hne⟩ := hrel
    have HNE := Lib.hid hne
    clear hne
    by_cases hlt : k < 22
    · have hc := HT.out.names k hlt
      cases heq : nmS k == s.toList
      · have HE := Lib.hid heq
        go_wp2
        go_round
        case rel => exact ⟨k + 1, by omega, by go_num, fun j hj => by
          rcases Nat.lt_or_ge j k with h | h
          · exact HNE.out j h
          · obtain rfl : j = k := by omega
            exact HE.out⟩
        case measure => simp [intOf]; omega
      · have HE := Lib.hid heq
        go_wp2
        go_ret2
        have e : ofS s.toList = ((k : Int), true) := by
          unfold ofS
          have : (List.range 22).find? (fun j => nmS j == s.toList) = some k := by
            rw [List.find?_range_eq_some]
            exact ⟨HE.out, by simpa using hlt, fun j hj => by simp [HNE.out j hj]⟩
          rw [this]
        rw [e]
        exact ⟨rfl, rfl⟩
    · have hk22 : k = 22 := by omega
      subst hk22
      go_wp2
      go_ret2
      have e : ofS s.toList = (0, false) := by
        unfold ofS
        have : (List.range 22).find? (fun j => nmS j == s.toList) = none := by
          rw [List.find?_eq_none]
          intro j hj
          rw [HNE.out j (by simpa using hj)]
          decide
        rw [this]
      rw [e]
      exact ⟨rfl, rfl⟩

end Go.Proofs.YtkinnhdagdkhcaaDoor
