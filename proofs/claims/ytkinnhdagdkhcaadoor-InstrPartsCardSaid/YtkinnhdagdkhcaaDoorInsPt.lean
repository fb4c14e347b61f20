/- Layer 3 (instr): the walk of InstrParts. -/
import Derived.Test.YtkinnhdagdkhcaaDoorInsQ
import Derived.Deep.RegionHeld3
namespace Go.Proofs.YtkinnhdagdkhcaaDoor
open Go.RowKit

def Good (w : World) (e : Ending) (w' : World) : Prop := e = .returned (.bool true) ∧ Kept (fun _ => False) w w'

set_option maxRecDepth 100000 in
set_option maxHeartbeats 4000000 in
theorem parts_walk (A : Option Addr) (n c : Nat) (a : List InsD) (B : Option Addr) (m d : Nat) (b : List InsD) (w : World) (hn : a.length = n) (hnm : n ≤ maxLen) (ha : InsAt w A a) (hao : ∀ x ∈ a, x.Ok)
    (hm : b.length = m) (hmm : m ≤ maxLen) (hb : InsAt w B b) (hbo : ∀ x ∈ b, x.Ok) (T : Tabs w) :
    Calls Tryd.prog 7 #[.slice A n c, .slice B m d] w (Good w) := by
  unfold maxLen at hnm hmm
  have HT := Lib.hid T
  have HA := Lib.hid (⟨hn, ha, hao⟩ : _ ∧ _ ∧ _)
  have HB := Lib.hid (⟨hm, hb, hbo⟩ : _ ∧ _ ∧ _)
  clear T hn ha hao hm hb hbo
  by_cases h40 : 40 < n ∨ 40 < m
  · by_cases h1 : 40 < n
    · go_enter Tryd.func7, Tryd.ntmps7
      go_wp2_with fail
      refine (alive_calls _ HT.out).mono ?_
      rintro e w1 ⟨rfl, K1⟩
      go_wp2_with fail
      go_ret
      exact ⟨rfl, K1⟩
    · have h2 : 40 < m := by omega
      clear h40
      go_enter Tryd.func7, Tryd.ntmps7
      go_wp2_with fail
      refine (alive_calls _ HT.out).mono ?_
      rintro e w1 ⟨rfl, K1⟩
      go_wp2_with fail
      go_ret
      exact ⟨rfl, K1⟩
  have h1 : n ≤ 40 := by omega
  have h2 : m ≤ 40 := by omega
  clear h40 hnm hmm
  go_enter Tryd.func7, Tryd.ntmps7
  go_wp2_with fail
  refine (alive_calls _ HT.out).mono ?_
  rintro e w1 ⟨rfl, K1⟩
  have HK1 := Lib.hid K1
  clear K1
  go_wp2_with fail
  refine (encode_walk _ A n c a HA.out.1 (by omega) (HA.out.2.1.kept HK1.out) (fun x hx => (HA.out.2.2 x hx).2.2.2.2) (HT.out.kept HK1.out)).mono ?_
  intro e w2 hE
  obtain ⟨K2, hE⟩ := hE
  have HK2 := Lib.hid (HK1.out.trans K2)
  clear K2
  obtain ⟨pa, X, xn, xc, xe, hpa, he, hx⟩ : ∃ (pa : Bool) (X : Option Addr) (xn xc : Nat) (xe : Int), a.all plainB = pa ∧ e = .returned (.tuple #[.slice X xn xc, .int .i64 xe]) ∧
      ((pa = true ∧ xn = 4 + 12 * n ∧ xe = 0 ∧ w2.ownsRow 0 5 1 (.slice X (4 + 12 * n) xc) (4 + 12 * n) (bv (encL a))) ∨ (pa = false ∧ xn = 0 ∧ xe = 30 ∧ X = none ∧ xc = 0)) := by
    rcases hE with ⟨hall, X, x, rfl, ho, _⟩ | ⟨hall, rfl⟩
    · rw [HA.out.1] at ho
      exact ⟨true, X, 4 + 12 * n, x, 0, hall, by rw [HA.out.1], .inl ⟨rfl, rfl, rfl, ho⟩⟩
    · exact ⟨false, none, 0, 0, 30, hall, rfl, .inr ⟨rfl, rfl, rfl, rfl, rfl⟩⟩
  subst he
  have HX := Lib.hid (⟨hpa, hx⟩ : _ ∧ _)
  clear hE hpa hx
  go_wp2_with fail
  refine (encode_walk _ B m d b HB.out.1 (by omega) (HB.out.2.1.kept HK2.out) (fun x hx => (HB.out.2.2 x hx).2.2.2.2) (HT.out.kept HK2.out)).mono ?_
  intro e w3 hE
  obtain ⟨K3, hE⟩ := hE
  have HK23 := Lib.hid K3
  have HK3 := Lib.hid (HK2.out.trans K3)
  clear K3
  obtain ⟨pb, Y, yn, yc, ye, hpb, he, hy⟩ : ∃ (pb : Bool) (Y : Option Addr) (yn yc : Nat) (ye : Int), b.all plainB = pb ∧ e = .returned (.tuple #[.slice Y yn yc, .int .i64 ye]) ∧
      ((pb = true ∧ yn = 4 + 12 * m ∧ ye = 0 ∧ w3.ownsRow 0 5 1 (.slice Y (4 + 12 * m) yc) (4 + 12 * m) (bv (encL b))) ∨ (pb = false ∧ yn = 0 ∧ ye = 30 ∧ Y = none ∧ yc = 0)) := by
    rcases hE with ⟨hall, X, x, rfl, ho, _⟩ | ⟨hall, rfl⟩
    · rw [HB.out.1] at ho
      exact ⟨true, X, 4 + 12 * m, x, 0, hall, by rw [HB.out.1], .inl ⟨rfl, rfl, rfl, ho⟩⟩
    · exact ⟨false, none, 0, 0, 30, hall, rfl, .inr ⟨rfl, rfl, rfl, rfl, rfl⟩⟩
  subst he
  have HY := Lib.hid (⟨hpb, hy⟩ : _ ∧ _)
  clear hE hpb hy
  have HOE := Lib.hid ((World.ownsRow_lit (base := 0) (e := 47) (size := 5) w3 #[] 0 (Nat.zero_le _) (by decide) rfl))
  go_wp2_with (at_builtin; first
    | (refine wpList_append_ins rfl (.tmp 32) (.tmp 33) rfl w3.heap.size 0 0 [] rfl HOE.out A n c a rfl HA.out.1 (HA.out.2.1.kept (HK3.out.alloc _)) (by omega) ?_; intro g4 q4 w4 ho4 hg4 hat4; rw [Nat.zero_add] at ho4)
    | (refine wpList_append_ins rfl (.tmp 34) (.tmp 35) rfl g4 n q4 _ rfl ho4 B m d b rfl HB.out.1 (HB.out.2.1.kept (Kept.push (HK3.out.alloc _) hg4 (fun z hz => by injection hz with hz; have := HK3.out.size; omega))) (by omega) ?_; intro g5 q5 w5 ho5 hg5 hat5))
  have KW : Kept (fun _ => False) w w5 := Kept.push (Kept.push (HK3.out.alloc _) hg4 (fun z hz => by injection hz with hz; have := HK3.out.size; omega)) hg5 (fun z hz => by
    injection hz with hz
    have := HK3.out.size
    rcases hat4 with h | h
    · omega
    · simp at h; omega)
  have KW3 : Kept (fun _ => False) w3 w5 := Kept.push (Kept.push ((Kept.refl _ _).alloc _) hg4 (fun z hz => by injection hz with hz; omega)) hg5 (fun z hz => by
    injection hz with hz
    rcases hat4 with h | h
    · omega
    · simp at h; omega)
  have HK5 := Lib.hid KW
  have HK35 := Lib.hid KW3
  rw [List.nil_append, ← flatI_append] at ho5
  have HO5 := Lib.hid ho5
  clear KW KW3 ho4 ho5 hg4 hg5 hat4 hat5
  refine (encode_walk _ (some ⟨g5, 0, none⟩) (n + m) q5 (a ++ b) (by rw [List.length_append, HA.out.1, HB.out.1]) (by omega) (InsAt.of_own HO5.out (by rw [List.length_append, HA.out.1, HB.out.1])) (fun x hx => by
    rcases List.mem_append.1 hx with hx | hx
    · exact (HA.out.2.2 x hx).2.2.2.2
    · exact (HB.out.2.2 x hx).2.2.2.2) (HT.out.kept HK5.out)).mono ?_
  intro e w6 hE
  obtain ⟨K6, hE⟩ := hE
  have HK6 := Lib.hid (HK5.out.trans K6)
  have HK36 := Lib.hid (HK35.out.trans K6)
  clear K6
  have hab : (a ++ b).all plainB = (pa && pb) := by rw [List.all_append, HX.out.1, HY.out.1]
  have hlen : (a ++ b).length = n + m := by rw [List.length_append, HA.out.1, HB.out.1]
  cases hp : (pa && pb)
  · rw [hab, hp] at hE
    obtain ⟨h, _⟩ | ⟨_, rfl⟩ := hE
    · cases h
    obtain ⟨_, ⟨rfl, rfl, rfl, _⟩ | ⟨rfl, rfl, rfl, rfl, rfl⟩⟩ := HX.out
    · obtain ⟨_, ⟨rfl, rfl, rfl, _⟩ | ⟨rfl, rfl, rfl, rfl, rfl⟩⟩ := HY.out
      · cases hp
      · clear hab hlen hp
        go_wp2_with fail
        go_ret
        exact ⟨rfl, HK6.out⟩
    · clear hab hlen hp
      go_wp2_with fail
      go_ret
      exact ⟨rfl, HK6.out⟩
  · obtain ⟨rfl, rfl⟩ : pa = true ∧ pb = true := by simpa using hp
    rw [hab, hp] at hE
    obtain ⟨_, Z, z, rfl, hz, _⟩ | ⟨h, _⟩ := hE
    · rw [hlen] at hz ⊢
      obtain ⟨_, ⟨_, rfl, rfl, hx⟩ | ⟨h, _⟩⟩ := HX.out
      · obtain ⟨_, ⟨_, rfl, rfl, hy⟩ | ⟨h, _⟩⟩ := HY.out
        · obtain ⟨gx, rfl, hgx, _⟩ := own_at hx (by omega)
          obtain ⟨gy, rfl, hgy, _⟩ := own_at hy (by omega)
          obtain ⟨gz, rfl, hgz, hzc⟩ := own_at hz (by omega)
          have hx6 := (HK23.out.trans HK36.out).own hx (fun _ _ h => h)
          have hy6 := HK36.out.own hy (fun _ _ h => h)
          have z2 : w6.drew.cell? ⟨gz, 2, none⟩ = some (.int .u8 ((n : Int) + m)) := by
            have e : (bv (encL (a ++ b)))[2]? = some (.int .u8 (((n + m : Nat) : Int) % 256)) := by unfold encL headL; rw [hlen]; rfl
            have := hzc 2 _ e
            rw [show (((n + m : Nat) : Int) % 256) = (n : Int) + m by omega] at this
            exact this
          have tx : ∀ W : World, (Instr.slice 23 (.slice (some ⟨gx, 0, none⟩) (4 + 12 * n) xc) (some (.int .i64 4)) none none).run Tryd.prog W = .ok (.slice (tailA gx xc) (12 * n) (xc - 4)) W := fun W => by
            have := run_tail W gx (4 + 12 * n) xc (by omega)
            rwa [Nat.add_sub_cancel_left] at this
          have ty : ∀ W : World, (Instr.slice 23 (.slice (some ⟨gy, 0, none⟩) (4 + 12 * m) yc) (some (.int .i64 4)) none none).run Tryd.prog W = .ok (.slice (tailA gy yc) (12 * m) (yc - 4)) W := fun W => by
            have := run_tail W gy (4 + 12 * m) yc (by omega)
            rwa [Nat.add_sub_cancel_left] at this
          have tz : ∀ W : World, (Instr.slice 23 (.slice (some ⟨gz, 0, none⟩) (4 + 12 * (n + m)) z) (some (.int .i64 4)) none none).run Tryd.prog W = .ok (.slice (tailA gz z) (12 * (n + m)) (z - 4)) W := fun W => by
            have := run_tail W gz (4 + 12 * (n + m)) z (by omega)
            rwa [Nat.add_sub_cancel_left] at this
          have vx : (convert 23 9 (.slice (tailA gx xc) (12 * n) (xc - 4))).run Tryd.prog w6.drew = .ok (.string (strL (bytesAll a))) w6.drew := by
            have := conv_tail (W := w6.drew) hx6 (by rw [encL_length, HA.out.1]) (by omega)
            rwa [Nat.add_sub_cancel_left, encL_drop] at this
          have vy : (convert 23 9 (.slice (tailA gy yc) (12 * m) (yc - 4))).run Tryd.prog w6.drew = .ok (.string (strL (bytesAll b))) w6.drew := by
            have := conv_tail (W := w6.drew) hy6 (by rw [encL_length, HB.out.1]) (by omega)
            rwa [Nat.add_sub_cancel_left, encL_drop] at this
          have vz : (convert 23 9 (.slice (tailA gz z) (12 * (n + m)) (z - 4))).run Tryd.prog w6.drew = .ok (.string (strL (bytesAll (a ++ b)))) w6.drew := by
            have := conv_tail (W := w6.drew) hz (by rw [encL_length, hlen]) (by omega)
            rwa [Nat.add_sub_cancel_left, encL_drop] at this
          have hadd : ∀ W : World, (Op.stringOp .add (strL (bytesAll a)) (strL (bytesAll b))).run Tryd.prog W = .ok (.string (strL (bytesAll (a ++ b)))) W := fun W => by
            rw [run_string_add_sum W _ _ (by simp [strL, ByteArray.size, bytesAll_length, HA.out.1, HB.out.1]; omega), strL_append, bytesAll_append]
          generalize strL (bytesAll a) = sx at *
          generalize strL (bytesAll b) = sy at *
          generalize strL (bytesAll (a ++ b)) = sz at *
          generalize tailA gx xc = TX at *
          generalize tailA gy yc = TY at *
          generalize tailA gz z = TZ at *
          have hsz : (sz.toList == sz.toList) = true := beq_self_eq_true _
          have u1 : IntKind.i64.wrap (12 * (n : Int)) = 12 * (n : Int) := by rw [IntKind.wrap_i64]; omega
          have u2 : IntKind.i64.wrap (4 + 12 * (n : Int)) = 4 + 12 * (n : Int) := by rw [IntKind.wrap_i64]; omega
          have u3 : IntKind.i64.wrap (12 * (m : Int)) = 12 * (m : Int) := by rw [IntKind.wrap_i64]; omega
          have u4 : IntKind.i64.wrap (4 + 12 * (n : Int) + 12 * (m : Int)) = 4 + 12 * (n : Int) + 12 * (m : Int) := by rw [IntKind.wrap_i64]; omega
          have u5 : IntKind.i64.wrap ((n : Int) + m) = (n : Int) + m := by rw [IntKind.wrap_i64]; omega
          clear hx hy hz hzc hx6 hy6 hab hlen hp
          obtain ⟨Lx, hLx, jx⟩ : ∃ Lx : Nat, 4 + 12 * n = Lx ∧ (Lx : Int) = 4 + 12 * (n : Int) := ⟨_, rfl, by omega⟩
          obtain ⟨Ly, hLy⟩ : ∃ Ly : Nat, 4 + 12 * m = Ly := ⟨_, rfl⟩
          obtain ⟨Lz, hLz, jz⟩ : ∃ Lz : Nat, 4 + 12 * (n + m) = Lz ∧ (Lz : Int) = 4 + 12 * (n : Int) + 12 * (m : Int) := ⟨_, rfl, by omega⟩
          obtain ⟨Mz, hMz⟩ : ∃ Mz : Nat, 12 * (n + m) = Mz := ⟨_, rfl⟩
          rw [hLx] at tx ⊢
          rw [hLy] at ty ⊢
          rw [hLz] at tz ⊢
          rw [hMz] at tz vz
          clear hLx hLy hLz hMz
          go_wp2_with fail
          have k0 : (2 : Int) < Lz := by omega
          have k1 : ¬ (Lz : Int) ≤ 2 := by omega
          have k2 : (2 : Int) < 4 + 12 * (n : Int) + 12 * (m : Int) := by omega
          have k3 : ¬ 4 + 12 * (n : Int) + 12 * (m : Int) ≤ 2 := by omega
          go_region_held3 (fun W => W.cell? ⟨gz, 2, none⟩ = some (.int .u8 ((n : Int) + m)) ∧ (convert 23 9 (.slice TX (12 * n) (xc - 4))).run Tryd.prog W = .ok (.string sx) W ∧
              (convert 23 9 (.slice TY (12 * m) (yc - 4))).run Tryd.prog W = .ok (.string sy) W ∧ (convert 23 9 (.slice TZ Mz (z - 4))).run Tryd.prog W = .ok (.string sz) W)
            (exact ⟨z2, vx, vy, vz⟩) (fail)
          all_goals
            go_wp2_with fail
            go_ret
            exact ⟨rfl, HK6.out.drew⟩
        · cases h
      · cases h
    · cases h

end Go.Proofs.YtkinnhdagdkhcaaDoor
