/- Layer 3 (instr): the law's alive. -/
import Derived.Test.YtkinnhdagdkhcaaDoorInsK
namespace Go.Proofs.YtkinnhdagdkhcaaDoor
open Go.RowKit

theorem own_cap {w : World} {base size n c : Nat} {e : TypeId} {A : Option Addr} {xs : List Value} (h : w.ownsRow base e size (.slice A n c) n xs) : n ≤ c := by
  rcases h.2 with ⟨hv, h0⟩ | ⟨g, cap, cur, hv, _, _, hn, _⟩
  · omega
  · injection hv with _ _ h3
    omega
theorem own_at {w : World} {base size n c : Nat} {e : TypeId} {A : Option Addr} {xs : List Value} (h : w.ownsRow base e size (.slice A n c) n xs) (hn : 0 < n) : ∃ g, A = some ⟨g, 0, none⟩ ∧ g < w.heap.size ∧ ∀ j u, xs[j]? = some u → w.cell? ⟨g, j, none⟩ = some u := by
  obtain ⟨g, cap, hv, _, hlt⟩ := h.form hn
  have hA : A = some ⟨g, 0, none⟩ := by injection hv
  subst hA
  exact ⟨g, rfl, hlt, fun j u hu => by
    have := h.cells (g := g) rfl j u hu
    rwa [addr_add] at this⟩
theorem encL_byte (l : List InsD) (h : l.all plainB = true) (hn : l.length ≤ 256) : ByteL (encL l) := by
  intro x hx
  unfold encL at hx
  rcases List.mem_append.1 hx with hx | hx
  · simp only [headL, List.mem_cons, List.not_mem_nil, or_false] at hx
    rcases hx with rfl | rfl | rfl | rfl <;> omega
  · obtain ⟨d, hd, hx⟩ := List.mem_flatMap.1 hx
    obtain ⟨⟨a0, a1⟩, ⟨b0, b1⟩, ⟨c0, c1⟩, ⟨d0, d1⟩⟩ := plain_bounds (List.all_eq_true.1 h d hd)
    rcases List.mem_append.1 hx with hx | hx
    · simp only [List.mem_cons, List.not_mem_nil, or_false] at hx
      rcases hx with rfl | rfl | rfl | rfl <;> omega
    · exact immL_byte _ _ x hx

def two : List InsD := [⟨0, 1, 0, 0, 258⟩, ⟨20, 1, 0, 0, 0⟩]
theorem two_enc : encL two = [84, 66, 2, 0, 0, 1, 0, 0, 2, 1, 0, 0, 0, 0, 0, 0, 20, 1, 0, 0, 0, 0, 0, 0, 0, 0, 0, 0] := by decide +kernel
theorem two_dec : decErr (encL two) = 0 ∧ cntL (encL two) = 2 ∧ flatI (insAll (encL two) 2) = flatI two := by
  rw [two_enc]
  refine ⟨by decide +kernel, by decide +kernel, ?_⟩
  have : insAll [84, 66, 2, 0, 0, 1, 0, 0, 2, 1, 0, 0, 0, 0, 0, 0, 20, 1, 0, 0, 0, 0, 0, 0, 0, 0, 0, 0] 2 = two := by decide +kernel
  rw [this]

set_option maxRecDepth 100000 in
set_option maxHeartbeats 2000000 in
theorem alive_calls (w : World) (T : Tabs w) : Calls Tryd.prog 8 #[] w fun e w' => e = .returned (.bool true) ∧ Kept (fun _ => False) w w' := by
  have HT := Lib.hid T
  have HO := Lib.hid (World.ownsRow_lit (base := 0) (e := 47) (size := 5) w #[.int .i64 0, .int .i64 1, .int .i64 0, .int .i64 0, .int .u64 258, .int .i64 20, .int .i64 1, .int .i64 0, .int .i64 0, .int .u64 0] 2 (Nat.zero_le _) (by decide) rfl)
  have K0 : Kept (fun _ => False) w (w.alloc (.cells #[.int .i64 0, .int .i64 1, .int .i64 0, .int .i64 0, .int .u64 258, .int .i64 20, .int .i64 1, .int .i64 0, .int .i64 0, .int .u64 0] 47)) := (Kept.refl _ _).alloc _
  have HK0 := Lib.hid K0
  clear T K0
  go_enter Tryd.func8, Tryd.ntmps8
  go_wp2_with fail
  refine (encode_walk _ _ 2 _ two rfl (by decide) (InsAt.of_own HO.out rfl) (by decide) (HT.out.kept HK0.out)).mono ?_
  rintro e w1 ⟨K1, ⟨_, A, c, rfl, ho, hf⟩ | ⟨hall, _⟩⟩
  · have hlen : 4 + 12 * two.length = 28 := rfl
    rw [hlen] at ho ⊢
    obtain ⟨g, rfl, hg, hgc⟩ := own_at ho (by decide)
    have hcap := own_cap ho
    have HC := Lib.hid hgc
    have HW := Lib.hid ho
    have HK1 := Lib.hid (HK0.out.trans K1)
    clear K1 hf ho hgc hlen
    go_wp2_with fail
    refine (decode_walk _ _ 28 _ (encL two) (by rw [two_enc]; rfl) (by decide) hcap (BytesAt.of_own HW.out (by rw [two_enc]; rfl)) (encL_byte two (by decide) (by decide)) (HT.out.kept HK1.out)).mono ?_
    rintro e w2 ⟨K2, ⟨_, A2, c2, rfl, ho2, _⟩ | ⟨hne, _⟩⟩
    · rw [two_dec.2.1, two_dec.2.2] at ho2
      rw [two_dec.2.1]
      obtain ⟨g2, rfl, hg2, hgc2⟩ := own_at ho2 (by decide)
      have HC2 := Lib.hid hgc2
      have HK2 := Lib.hid K2
      clear K2 ho2 hgc2
      go_wp2_with fail
      refine (decode_walk _ none 0 _ [] rfl (by decide) (Nat.le_refl _) (fun h => by cases h) (fun x hx => by cases hx) (HT.out.kept (HK1.out.trans HK2.out))).mono ?_
      rintro e w3 ⟨K3, ⟨h0, _⟩ | ⟨_, rfl⟩⟩
      · exact absurd h0 (by decide)
      · have h34 : decErr [] = 34 := by decide
        rw [h34]
        have HK3 := Lib.hid (HK1.out.trans (HK2.out.trans K3))
        have HK23 := Lib.hid (HK2.out.trans K3)
        have hOf := of_calls ⟨#[114, 101, 97, 100, 97, 116]⟩ w3 (HT.out.kept HK3.out)
        have e12 : ofS (ByteArray.mk #[114, 101, 97, 100, 97, 116]).toList = (12, true) := by rw [ByteArray.toList_eq]; decide +kernel
        rw [e12] at hOf
        have HC3 := Lib.hid (fun (j : Nat) (u : Value) (hu : (flatI two)[j]? = some u) => K3.cell_some (fun h => h) (HC2.out j u hu))
        clear h34 K3 e12
        go_wp2_with fail
        refine hOf.mono ?_
        rintro e w' ⟨rfl, rfl⟩
        clear hOf
        go_wp2_with fail
        refine (uses_calls 12 w3 (HT.out.kept HK3.out)).mono ?_
        rintro e w4 ⟨rfl, K4⟩
        have HK4 := Lib.hid (HK3.out.trans K4)
        have e12 : usesV 12 = .tuple #[.bool true, .bool true, .bool true, .bool false] := rfl
        rw [e12]
        have HCB := Lib.hid (fun (j : Nat) (u : Value) (hu : (bv (encL two))[j]? = some u) => (HK23.out.trans K4).cell_some (fun h => h) (HC.out j u hu))
        have c8 := HCB.out 8 (.int .u8 2) (by rw [two_enc]; rfl)
        have c9 := HCB.out 9 (.int .u8 1) (by rw [two_enc]; rfl)
        have d4 := K4.cell_some (fun h => h) (HC3.out 4 (.int .u64 258) rfl)
        have d5 := K4.cell_some (fun h => h) (HC3.out 5 (.int .i64 20) rfl)
        have d6 := K4.cell_some (fun h => h) (HC3.out 6 (.int .i64 1) rfl)
        have d7 := K4.cell_some (fun h => h) (HC3.out 7 (.int .i64 0) rfl)
        have d8 := K4.cell_some (fun h => h) (HC3.out 8 (.int .i64 0) rfl)
        have d9 := K4.cell_some (fun h => h) (HC3.out 9 (.int .u64 0) rfl)
        have hcv : (convert 23 9 (.slice (some ⟨g, 0, none⟩) 8 c)).run Tryd.prog w4 = .ok (.string ⟨#[84, 66, 2, 0, 0, 1, 0, 0]⟩) w4 :=
          conv_bytes w4 (some ⟨g, 0, none⟩) 8 c [84, 66, 2, 0, 0, 1, 0, 0] rfl (fun h => by cases h) (fun _ => ⟨g, 0, rfl, Nat.lt_of_lt_of_le hg (HK23.out.trans K4).size, fun k x hx => by
            rw [Nat.zero_add]
            refine HCB.out k _ ?_
            have hk := (List.getElem?_eq_some_iff.1 hx).1
            rw [two_enc]
            have : (bv [84, 66, 2, 0, 0, 1, 0, 0, 2, 1, 0, 0, 0, 0, 0, 0, 20, 1, 0, 0, 0, 0, 0, 0, 0, 0, 0, 0])[k]? = (bv [84, 66, 2, 0, 0, 1, 0, 0])[k]? := by
              have h8 : k < 8 := hk
              match k, h8 with | 0, _ => rfl | 1, _ => rfl | 2, _ => rfl | 3, _ => rfl | 4, _ => rfl | 5, _ => rfl | 6, _ => rfl | 7, _ => rfl
            rw [this]
            show (List.map (Value.int .u8) _)[k]? = _
            rw [List.getElem?_map, hx]
            rfl⟩)
        have HNM := Lib.hid (name_yes 20 (by decide) w4 (HT.out.kept HK4.out))
        have HP1 := Lib.hid (plain_calls ⟨20, 1, 0, 0, 0⟩ w4 (HT.out.kept HK4.out))
        have HP2 := Lib.hid (fun W (k : Kept (fun _ => False) w W) => plain_calls ⟨-1, 0, 0, 0, 0⟩ W (HT.out.kept k))
        clear K4 e12
        go_wp2_with fail
        refine HNM.out.mono ?_
        rintro e w' ⟨rfl, rfl⟩
        have e20 : (⟨(nmS 20).toArray⟩ : ByteArray) = ⟨#[114, 101, 116, 117, 114, 110]⟩ := rfl
        rw [e20]
        clear e20
        go_wp2_with fail
        refine HP1.out.mono ?_
        rintro e w5 ⟨rfl, K5⟩
        have ep : plainB ⟨20, 1, 0, 0, 0⟩ = true := rfl
        rw [ep]
        have HK5 := Lib.hid (HK4.out.trans K5)
        clear K5 ep
        go_wp2_with fail
        refine (HP2.out _ HK5.out).mono ?_
        rintro e w6 ⟨rfl, K6⟩
        have ep : plainB ⟨-1, 0, 0, 0, 0⟩ = false := rfl
        rw [ep]
        have HK6 := Lib.hid (HK5.out.trans K6)
        clear K6 ep
        go_wp2_with fail
        go_ret
        exact ⟨rfl, HK6.out⟩
    · exact absurd two_dec.1 hne
  · exact absurd hall (by decide)

end Go.Proofs.YtkinnhdagdkhcaaDoor
