/- Layer 2 (glyph): the document's digit, begins, Run. -/
import Derived.Test.YtonihjijienigaaDoorGlA
import Derived.LoopTactic
import Derived.BigFrame
import Derived.Laws.Strings
namespace Go.Proofs.YtonihjijienigaaDoor
open Go.RowKit

def goesC (c : UInt8) : Bool := goesOnB (c.toNat : Int)
/-- How many bytes a run has that begins a text. -/
def runP : List UInt8 → Nat
  | [] => 0
  | c :: r => if beginsB (c.toNat : Int) = true then 1 + (r.takeWhile goesC).length else 0

theorem runP_cons (c : UInt8) (r : List UInt8) : runP (c :: r) = if beginsB (c.toNat : Int) = true then 1 + (r.takeWhile goesC).length else 0 := rfl

theorem takeWhile_stop (r : List UInt8) : ∀ k : Nat, (r.take k).all goesC = true → (∀ c, r[k]? = some c → goesC c = false) → k ≤ r.length → (r.takeWhile goesC).length = k := by
  induction r with
  | nil => intro k _ _ hk; simp at hk; subst hk; rfl
  | cons c r ih =>
    intro k ha hs hk
    cases k with
    | zero =>
      have := hs c rfl
      simp [List.takeWhile, this]
    | succ k =>
      simp only [List.take_succ_cons, List.all_cons, Bool.and_eq_true] at ha
      rw [List.takeWhile_cons, ha.1]
      simp only [if_true, List.length_cons]
      rw [ih k ha.2 (fun d hd => hs d (by simpa using hd)) (by simpa using hk)]

theorem refDigit_calls (r : Int) (w : World) : Calls Tryd.prog 48 #[.int .u8 r] w fun e w' => e = .returned (.bool (digitB r)) ∧ w = w' := by
  rcases (show r < 48 ∨ (48 ≤ r ∧ r ≤ 57) ∨ 57 < r by omega) with h | ⟨h, h'⟩ | h
  all_goals
    first
      | (have hv : digitB r = true := decide_eq_true (by omega); rw [hv]; clear hv)
      | (have hv : digitB r = false := decide_eq_false (by omega); rw [hv]; clear hv)
    try have q1 : ¬ r ≤ 57 := by omega
    go_enter Tryd.func48, Tryd.ntmps48
    go_wp2
    go_ret
    exact ⟨rfl, rfl⟩
set_option maxRecDepth 100000 in
set_option maxHeartbeats 1000000 in
theorem refBegins_calls (r : Int) (w : World) : Calls Tryd.prog 47 #[.int .u8 r] w fun e w' => e = .returned (.bool (beginsB r)) ∧ w = w' := by
  have hD := refDigit_calls r
  obtain ⟨d, hd⟩ : ∃ d, digitB r = d := ⟨_, rfl⟩
  obtain ⟨lb, hlb⟩ : ∃ lb, letterB r = lb := ⟨_, rfl⟩
  have hb : beginsB r = (lb || d) := by unfold beginsB; rw [hd, hlb]
  rw [hb]
  rw [hd] at hD
  clear hb hd
  have HD := Lib.hid hD
  clear hD
  have n95 : (r == 95) = decide (r = 95) := rfl
  rcases (show r < 65 ∨ (65 ≤ r ∧ r ≤ 90) ∨ (90 < r ∧ r < 95) ∨ r = 95 ∨ r = 96 ∨ (97 ≤ r ∧ r ≤ 122) ∨ 122 < r by omega) with h | ⟨h, h'⟩ | ⟨h, h'⟩ | h | h | ⟨h, h'⟩ | h
  all_goals
    first
      | (have hv : letterB r = true := decide_eq_true (by omega); rw [hlb] at hv; subst hv)
      | (have hv : letterB r = false := decide_eq_false (by omega); rw [hlb] at hv; subst hv)
    clear hlb
    first
      | (rw [decide_eq_true (by omega)] at n95)
      | (rw [decide_eq_false (by omega)] at n95)
    try have q1 : decide (r ≤ 90) = false := decide_eq_false (by omega)
    try have q2 : decide (r ≤ 122) = false := decide_eq_false (by omega)
    try have q3 : ¬ r ≤ 90 := by omega
    try have q4 : ¬ r ≤ 122 := by omega
    try subst h
    cases d
    all_goals
      go_enter Tryd.func47, Tryd.ntmps47
      go_wp2_with (go_at_call 48; refine (HD.out _).mono ?_; rintro e w' ⟨rfl, rfl⟩)
      go_ret
      exact ⟨rfl, rfl⟩

set_option maxRecDepth 100000 in
set_option maxHeartbeats 1000000 in
theorem run_calls (s : ByteArray) (p : Nat) (w : World) (hs : s.size ≤ 70000) (hp : p ≤ s.size) :
    Calls Tryd.prog 37 #[.string s, .int .i64 (p : Int)] w fun e w' => e = .returned (.int .i64 (runP (s.data.toList.drop p))) ∧ w = w' := by
  have hsz : s.data.toList.length = s.size := Array.length_toList
  have HSZ := Lib.hid hsz
  clear hsz
  by_cases hps : p < s.size
  · have hdr : s.data.toList.drop p = s[p] :: s.data.toList.drop (p + 1) := by
      rw [List.drop_eq_getElem_cons (by rw [HSZ.out]; exact hps)]
      rfl
    rw [hdr]
    have hpd : decide (s.size ≤ p) = false := decide_eq_false (by omega)
    have HBG := Lib.hid (refBegins_calls ((s[p].toNat : Nat) : Int))
    cases hb : beginsB ((s[p].toNat : Nat) : Int)
    · have e : runP (s[p] :: s.data.toList.drop (p + 1)) = 0 := by rw [runP_cons, hb]; rfl
      rw [e]
      have HB := Lib.hid hb
      clear hb e hdr
      go_enter Tryd.func37, Tryd.ntmps37
      go_wp2_with fail
      refine (HBG.out _).mono ?_
      rintro e w' ⟨rfl, rfl⟩
      rw [HB.out]
      go_wp2_with fail
      go_ret
      exact ⟨rfl, rfl⟩
    · obtain ⟨R, hR⟩ : ∃ R, s.data.toList.drop (p + 1) = R := ⟨_, rfl⟩
      have hRl : R.length = s.size - (p + 1) := by rw [← hR, List.length_drop, HSZ.out]
      have hRat : ∀ k, (h : p + (1 + k) < s.size) → R[k]? = some (s[p + (1 + k)]'h) := fun k h => by
        rw [← hR, List.getElem?_drop, Nat.add_assoc, List.getElem?_eq_getElem (by rw [HSZ.out]; exact h)]
        rfl
      rw [hR]
      have e : runP (s[p] :: R) = 1 + (R.takeWhile goesC).length := by rw [runP_cons, hb]; rfl
      rw [e]
      have HB := Lib.hid hb
      have HR := Lib.hid (⟨hRl, hRat⟩ : _ ∧ ∀ k, (h : p + (1 + k) < s.size) → R[k]? = some (s[p + (1 + k)]'h))
      clear hb e hdr hR hRl hRat
      go_enter Tryd.func37, Tryd.ntmps37
      go_wp2_with fail
      refine (HBG.out _).mono ?_
      rintro e w' ⟨rfl, rfl⟩
      rw [HB.out]
      go_wp2_with fail
      go_loop [5] (fun v => ∃ k : Nat, p + (1 + k) ≤ s.size ∧ v = .int .i64 (1 + (k : Int)) ∧ (R.take k).all goesC = true) (fun v => s.size - (intOf v).toNat)
      case atStart => exact ⟨0, by omega, rfl, rfl⟩
      case round =>
        obtain ⟨k, hk, rfl, hall⟩ := hrel
        have HA := Lib.hid hall
        clear hall
        by_cases hlt : p + (1 + k) < s.size
        · have hbg := refBegins_calls ((s[p + (1 + k)].toNat : Nat) : Int)
          have hrk := HR.out.2 k hlt
          have HRK := Lib.hid hrk
          clear hrk
          have hcl : k < R.length := by have := HR.out.1; omega
          have HCL := Lib.hid hcl
          clear hcl
          obtain ⟨b, hb⟩ : ∃ b, beginsB ((s[p + (1 + k)].toNat : Nat) : Int) = b := ⟨_, rfl⟩
          have HBB := Lib.hid hb
          rw [hb] at hbg
          clear hb
          have HG := Lib.hid hbg
          clear hbg
          have stop : goesC s[p + (1 + k)] = false → 1 + (R.takeWhile goesC).length = 1 + k := fun hg => by
            rw [takeWhile_stop R k HA.out (fun d hd => by rw [HRK.out] at hd; cases hd; exact hg) (by have := HCL.out; omega)]
          have go : goesC s[p + (1 + k)] = true → (R.take (k + 1)).all goesC = true := fun hg => by
            obtain ⟨hl, he⟩ := List.getElem?_eq_some_iff.1 HRK.out
            rw [List.take_succ_eq_append_getElem hl, List.all_append, HA.out, he]
            simp [hg]
          have HS := Lib.hid stop
          have HGO := Lib.hid go
          clear stop go
          cases b
          · by_cases h46 : ((s[p + (1 + k)].toNat : Nat) : Int) = 46
            · have hg : goesC s[p + (1 + k)] = true := by unfold goesC goesOnB; rw [HBB.out, decide_eq_true h46]; rfl
              have n46 : (((s[p + (1 + k)].toNat : Nat) : Int) == 46) = true := by simpa using h46
              have HGG := Lib.hid hg
              clear hg h46
              go_wp2_with (go_at_call 47; refine (HG.out _).mono ?_; rintro e w' ⟨rfl, rfl⟩)
              go_round
              case rel => exact ⟨k + 1, by omega, by go_num, HGO.out HGG.out⟩
              case measure => simp [intOf]; omega
            · have hg : goesC s[p + (1 + k)] = false := by unfold goesC goesOnB; rw [HBB.out, decide_eq_false h46]; rfl
              have n46 : (((s[p + (1 + k)].toNat : Nat) : Int) == 46) = false := by simpa using h46
              have HGG := Lib.hid hg
              clear hg h46
              go_wp2_with (go_at_call 47; refine (HG.out _).mono ?_; rintro e w' ⟨rfl, rfl⟩)
              go_ret
              rw [HS.out HGG.out]
              exact ⟨by go_num, rfl⟩
          · have hg : goesC s[p + (1 + k)] = true := by unfold goesC goesOnB; rw [HBB.out]; rfl
            have HGG := Lib.hid hg
            clear hg
            go_wp2_with (go_at_call 47; refine (HG.out _).mono ?_; rintro e w' ⟨rfl, rfl⟩)
            go_round
            case rel => exact ⟨k + 1, by omega, by go_num, HGO.out HGG.out⟩
            case measure => simp [intOf]; omega
        · have hkk : k = R.length := by have := HR.out.1; omega
          have hst := takeWhile_stop R k HA.out (fun d hd => by rw [List.getElem?_eq_none (by omega)] at hd; cases hd) (by omega)
          have HST := Lib.hid hst
          clear hst hkk
          go_wp2_with fail
          go_ret
          rw [HST.out]
          exact ⟨by go_num, rfl⟩
  · have e : runP (s.data.toList.drop p) = 0 := by
      rw [List.drop_of_length_le (by rw [HSZ.out]; omega)]
      rfl
    rw [e]
    have hps' : s.size ≤ p := by omega
    clear e
    go_enter Tryd.func37, Tryd.ntmps37
    go_wp2_with fail
    go_ret
    exact ⟨rfl, rfl⟩

end Go.Proofs.YtonihjijienigaaDoor
