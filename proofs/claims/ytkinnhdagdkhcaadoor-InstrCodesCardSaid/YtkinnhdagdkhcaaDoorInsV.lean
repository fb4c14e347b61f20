/- Layer 3 (instr): the document's Decode. -/
import Derived.Test.YtkinnhdagdkhcaaDoorInsU
import Derived.Deep.RegionHeld3
namespace Go.Proofs.YtkinnhdagdkhcaaDoor
open Go.RowKit

section
variable {P : Program} (w : World)
/-- append to a row of the call's own, as a step of a region that draws; where the new row lies. -/
theorem step_append_at {ops : Array Oper} {o : Oper} {a : Act} {K : Act → World → Prop} {Q : Exit → Act → World → Prop} {F : Prop} (hgd : o.guard = none) (s x : Operand) (t : TypeId)
    (ho : o.op = .call { callee := .builtin .append, args := #[s, x], argTypes := #[t, t] })
    (base : Nat) (e : TypeId) (i : TypeInfo) (z : Value) (size bytes : Nat) (ht : P.underlying t = some (.slice e)) (hi : P.info? e = some i) (hz : i.zero = some z)
    (hsize : i.size = size) (hby : i.bytes = bytes) (hzs : z.cells.size = size) (hsz : 0 < size)
    (v : Value) (n : Nat) (xs : List Value) (hs : a.eval s = v) (hown : w.ownsRow base e size v n xs)
    (ad : Addr) (m c : Nat) (news : List Value) (hx : a.eval x = .slice (some ad) m c) (hl : news.length = m * size) (hnews : ∀ j u, news[j]? = some u → w.cell? (ad.add j) = some u) (h1 : ∀ u ∈ news, u.oneCell' = true)
    (h63 : n + m ≤ maxLen) (hbytes : (n + m) * bytes ≤ 140737488355328) (hbase : base ≤ w.heap.size)
    (h : ∀ A c' w', w'.ownsRow base e size (.slice A (n + m) c') (n + m) (xs ++ news) → w.grownBy w' v.ownBlock → ((Value.slice A (n + m) c').ownBlock = v.ownBlock ∨ (Value.slice A (n + m) c').ownBlock = some w.heap.size) → K (a.put o.dst (.slice A (n + m) c')) w') :
    if Region.wanted o (yielded ops a.tmps) = true then Oper.wp P o a w K Q else F := by
  have hw : Region.wanted o (yielded ops a.tmps) = true := by simp [Region.wanted, hgd]
  rw [if_pos hw]
  obtain ⟨v', w', hr, h2, h3, _, h5⟩ := run_append_own_at (P := P) w base t o.type e i z size bytes ht hi hz hsize hby hzs hsz v n xs hown ad m c news hl hnews h1 h63 hbytes hbase
  obtain ⟨A, c', rfl⟩ := own_form h2
  unfold Oper.wp execOp
  simp only [ho, resolve, invoke, builtin, Sem.run_bind, Sem.run_pure, Result.andThen_ok, List.map_toArray, List.map_cons, List.map_nil, hs, hx, hr]
  exact h A c' w' h2 h3 h5
end

theorem strL_two (x y : Int) (hx : 0 ≤ x ∧ x < 256) (hy : 0 ≤ y ∧ y < 256) (h : ¬ (x = 84 ∧ y = 66)) : ((strL [x, y]).toList == [84, 66]) = false := by
  rw [Bool.eq_false_iff]
  intro e
  have e' : (strL [x, y]).toList = (strL [84, 66]).toList := by
    have := beq_iff_eq.1 e
    rw [this]
    unfold strL
    rw [ByteArray.toList_mk]
    rfl
  have := strL_inj (fun z hz => by simp at hz; rcases hz with rfl | rfl <;> assumption) (fun z hz => by simp at hz; omega) e'
  simp at this
  exact h this

set_option maxRecDepth 100000 in
set_option maxHeartbeats 4000000 in
theorem refDecode_walk (w : World) (A : Option Addr) (n c : Nat) (bs : List Int) (hn : bs.length = n) (hm : n ≤ 4000) (hcap : n ≤ c) (hb : BytesAt w A bs) (hB : ByteL bs) :
    Calls Tryd.prog 13 #[.slice A n c] w (DecPost w bs) := by
  by_cases h4 : n < 4
  · have hE : decErr bs = 34 := by unfold decErr; rw [if_pos (by omega)]
    have HE := Lib.hid hE
    clear hE hn
    go_enter Tryd.func13, Tryd.ntmps13
    go_wp2
    go_ret2
    exact DecPost.err HE.out (by decide) (Kept.refl _ _)
  obtain ⟨bb, off, rfl, hbl, hcc⟩ := hb (by omega)
  obtain ⟨x0, hx0⟩ : ∃ x, bs[0]? = some x := ⟨_, List.getElem?_eq_getElem (by omega)⟩
  obtain ⟨x1, hx1⟩ : ∃ x, bs[1]? = some x := ⟨_, List.getElem?_eq_getElem (by omega)⟩
  obtain ⟨x2, hx2⟩ : ∃ x, bs[2]? = some x := ⟨_, List.getElem?_eq_getElem (by omega)⟩
  obtain ⟨x3, hx3⟩ : ∃ x, bs[3]? = some x := ⟨_, List.getElem?_eq_getElem (by omega)⟩
  have r0 := hB x0 (List.mem_of_getElem? hx0)
  have r1 := hB x1 (List.mem_of_getElem? hx1)
  obtain ⟨a2, b2⟩ := hB x2 (List.mem_of_getElem? hx2)
  obtain ⟨a3, b3⟩ := hB x3 (List.mem_of_getElem? hx3)
  have g0 : bs.getD 0 0 = x0 := by simp [List.getD, hx0]
  have g1 : bs.getD 1 0 = x1 := by simp [List.getD, hx1]
  have hcn : cntL bs = (x2 + 256 * x3).toNat := by simp [cntL, List.getD, hx2, hx3]
  have c0 := hcc 0 x0 hx0
  have c1 := hcc 1 x1 hx1
  have c2 := hcc 2 x2 hx2
  have c3 := hcc 3 x3 hx3
  have v0 := conv_bytes w (some ⟨bb, off, none⟩) 2 c [x0, x1] rfl (fun h => by cases h) (fun _ => ⟨bb, off, rfl, hbl, fun k x hx => by
    match k, hx with
    | 0, hx => cases hx; exact c0
    | 1, hx => cases hx; exact c1
    | k + 2, hx => cases hx⟩)
  have hG := refGet_calls w (some ⟨bb, off + 2, none⟩) 2 (c - 2) [x2, x3] rfl (by decide) (fun _ => ⟨bb, off + 2, rfl, hbl, fun k x hx => by
    match k, hx with
    | 0, hx => cases hx; exact c2
    | 1, hx => cases hx; exact c3
    | k + 2, hx => cases hx⟩) (fun x hx => by simp at hx; rcases hx with rfl | rfl <;> constructor <;> assumption)
  have hgl : getL [x2, x3] = x2 + 256 * x3 := by simp [getL]
  rw [hgl] at hG
  have HC := Lib.hid hcc
  have HB := Lib.hid hB
  have HN := Lib.hid hn
  have HX := Lib.hid (⟨g0, g1, hcn⟩ : _ ∧ _ ∧ _)
  have hc2 : ¬ c = 2 := by omega
  clear hcc hB hn hx0 hx1 hx2 hx3 hb g0 g1 hcn c0 c1 c2 c3 hgl
  by_cases hf : x0 = 84 ∧ x1 = 66
  · obtain ⟨rfl, rfl⟩ := hf
    have es : strL [84, 66] = ⟨#[84, 66]⟩ := rfl
    rw [es] at v0
    clear es
    go_enter Tryd.func13, Tryd.ntmps13
    go_wp2_with fail
    refine hG.mono ?_
    rintro e w' ⟨rfl, rfl⟩
    obtain ⟨m, hmc⟩ : ∃ m, m = cntL bs := ⟨_, rfl⟩
    have hor : x2 + 256 * x3 = (m : Int) := by
      rw [hmc, HX.out.2.2]
      omega
    have hm0 : m ≤ 65535 := by rw [hmc, HX.out.2.2]; omega
    have HM := Lib.hid hmc
    rw [hor]
    clear hmc hor hG v0
    have zz : IntKind.i64.wrap (m : Int) = m := by rw [IntKind.wrap_i64]; omega
    by_cases h256 : 256 < m
    · have hE : decErr bs = 3 := by
        obtain ⟨g0, g1, _⟩ := HX.out
        unfold decErr
        rw [if_neg (by rw [HN.out]; exact h4), if_neg (by rw [g0, g1]; omega), if_pos (by rw [← HM.out]; exact h256)]
      have HE := Lib.hid hE
      clear hE
      go_wp2_with fail
      go_ret2
      exact DecPost.err HE.out (by decide) (Kept.refl _ _)
    by_cases hs : n < 4 + 12 * m
    · have hE : decErr bs = 34 := by
        obtain ⟨g0, g1, _⟩ := HX.out
        unfold decErr
        rw [if_neg (by rw [HN.out]; exact h4), if_neg (by rw [g0, g1]; omega), if_neg (by rw [← HM.out]; exact h256), if_pos (by rw [← HM.out, HN.out]; exact hs)]
      have HE := Lib.hid hE
      clear hE
      go_wp2_with fail
      go_ret2
      exact DecPost.err HE.out (by decide) (Kept.refl _ _)
    by_cases hg : 4 + 12 * m < n
    · have hE : decErr bs = 35 := by
        obtain ⟨g0, g1, _⟩ := HX.out
        unfold decErr
        rw [if_neg (by rw [HN.out]; exact h4), if_neg (by rw [g0, g1]; omega), if_neg (by rw [← HM.out]; exact h256), if_neg (by rw [← HM.out, HN.out]; exact hs), if_pos (by rw [← HM.out, HN.out]; exact hg)]
      have HE := Lib.hid hE
      clear hE
      go_wp2_with fail
      go_ret2
      exact DecPost.err HE.out (by decide) (Kept.refl _ _)
    have hnm : n = 4 + 12 * m := by omega
    have hE : decErr bs = if (insAll bs m).all plainB = true then 0 else 30 := by
      obtain ⟨g0, g1, _⟩ := HX.out
      unfold decErr
      rw [if_neg (by rw [HN.out]; exact h4), if_neg (by rw [g0, g1]; omega), if_neg (by rw [← HM.out]; exact h256), if_neg (by rw [← HM.out, HN.out]; exact hs), if_neg (by rw [← HM.out, HN.out]; exact hg), ← HM.out]
    have HE := Lib.hid hE
    have hn1 : 4 + 12 * m ≤ n := by omega
    have hn2 : n ≤ 4 + 12 * m := by omega
    have HNM := Lib.hid hnm
    clear hE hs hg h4 hnm
    obtain ⟨i0, hi0, hz0, hz1, hz2⟩ := info_parts' infoIns
    go_wp2_with fail
    go_loopw [5, 6] (fun v i wr' => ∃ (k : Nat) (A : Option Addr) (q : Nat) (W : World), W = wr' ∧ k ≤ m ∧ v = .slice A k q ∧ i = .int .i64 (k : Int) ∧
      W.ownsRow 0 47 5 (.slice A k q) k (flatI (insAll bs k)) ∧ (∀ x, (Value.slice A k q).ownBlock = some x → w.heap.size ≤ x) ∧ Kept (fun _ => False) w W) (fun _ i _ => m - (intOf i).toNat)
    case atStart => exact ⟨0, some ⟨w.heap.size, 0, none⟩, 0, _, rfl, Nat.zero_le _, rfl, rfl, World.ownsRow_lit (base := 0) (e := 47) (size := 5) w #[] 0 (Nat.zero_le _) (by decide) rfl, fun x hx => by simp [Value.ownBlock] at hx; omega, (Kept.refl _ _).alloc _⟩
    case round =>
      obtain ⟨k, A, q, W, rfl, hk, rfl, rfl, ho, hf, hK⟩ := hrel
      by_cases hlt : k < m
      · have hcl : ∀ j, j < 12 → ∃ x, bs[4 + 12 * k + j]? = some x ∧ W.drew.cell? ⟨bb, off + (4 + 12 * k) + j, none⟩ = some (.int .u8 x) ∧ 0 ≤ x ∧ x < 256 := fun j hj => by
          have hlb : 4 + 12 * k + j < bs.length := by have := HN.out; omega
          have hx := List.getElem?_eq_getElem hlb
          refine ⟨bs[4 + 12 * k + j], hx, ?_, HB.out _ (List.getElem_mem hlb)⟩
          have := hK.cell_some (fun h => h) (HC.out _ _ hx)
          rwa [← Nat.add_assoc] at this
        obtain ⟨y0, h0, d0, p0, p0'⟩ := hcl 0 (by omega)
        obtain ⟨y1, h1, d1, p1, p1'⟩ := hcl 1 (by omega)
        obtain ⟨y2, h2, d2, p2, p2'⟩ := hcl 2 (by omega)
        obtain ⟨y3, h3, d3, p3, p3'⟩ := hcl 3 (by omega)
        rw [Nat.add_zero] at d0 h0
        have hl8 : ((bs.drop (4 + 12 * k + 4)).take 8).length = 8 := by have := HN.out; simp; omega
        have hGt := refGet_calls W.drew (some ⟨bb, off + (4 + 12 * k) + 4, none⟩) 8 (c - (4 + 12 * k) - 4) ((bs.drop (4 + 12 * k + 4)).take 8) hl8 (by omega) (fun _ => ⟨bb, off + (4 + 12 * k) + 4, rfl, Nat.lt_of_lt_of_le hbl hK.size, fun j x hx => by
            have hj : j < 8 := by
              have := (List.getElem?_eq_some_iff.1 hx).1
              omega
            rw [List.getElem?_take_of_lt hj, List.getElem?_drop] at hx
            obtain ⟨x', hx', hcx, _⟩ := hcl (4 + j) (by omega)
            rw [← Nat.add_assoc] at hx' hcx
            rw [hx] at hx'
            cases hx'
            exact hcx⟩) ((HB.out.drop _).take _)
        have hins : insOf ((bs.drop (4 + 12 * k)).take 12) = ⟨y0, y1, y2, y3, getL ((bs.drop (4 + 12 * k + 4)).take 8)⟩ := by
          have e0 : ∀ j y, j < 12 → bs[4 + 12 * k + j]? = some y → ((bs.drop (4 + 12 * k)).take 12).getD j 0 = y := fun j y hj hy => by
            simp [List.getD, List.getElem?_take_of_lt hj, List.getElem?_drop, hy]
          have e4 : ((((bs.drop (4 + 12 * k)).take 12).drop 4).take 8) = ((bs.drop (4 + 12 * k + 4)).take 8) := by
            rw [List.drop_take, List.take_take, List.drop_drop]
            rfl
          unfold insOf
          rw [e4, e0 0 y0 (by omega) h0, e0 1 y1 (by omega) h1, e0 2 y2 (by omega) h2, e0 3 y3 (by omega) h3]
        have hsn := insAll_succ bs k
        rw [hins] at hsn
        have HSN := Lib.hid hsn
        have HO := Lib.hid ho
        have HF := Lib.hid hf
        have HK := Lib.hid hK
        have HGT := Lib.hid hGt
        have hcap' : ¬ c = 4 + 12 * k := by omega
        have hcap'' : ¬ c - (4 + 12 * k) = 4 := by omega
        generalize getL ((bs.drop (4 + 12 * k + 4)).take 8) = G at *
        have dw0 := HC.out _ _ h0
        have dw1 := HC.out _ _ h1
        have dw2 := HC.out _ _ h2
        have dw3 := HC.out _ _ h3
        rw [← Nat.add_assoc off] at dw1 dw2 dw3
        have HRW := Lib.hid (show R4 bb (off + (4 + 12 * k)) _ _ _ _ w from ⟨dw0, dw1, dw2, dw3⟩)
        clear hcl hl8 hGt hins hsn ho hf hK h0 h1 h2 h3 dw0 dw1 dw2 dw3
        have z0 : IntKind.i64.wrap y0 = y0 := by rw [IntKind.wrap_i64]; omega
        have z1 : IntKind.i64.wrap y1 = y1 := by rw [IntKind.wrap_i64]; omega
        have z2 : IntKind.i64.wrap y2 = y2 := by rw [IntKind.wrap_i64]; omega
        have z3 : IntKind.i64.wrap y3 = y3 := by rw [IntKind.wrap_i64]; omega
        go_wp2_with fail
        have l12 : 12 ≤ n - (4 + 12 * k) := by omega
        have c12 : 12 ≤ c - (4 + 12 * k) := by omega
        generalize n - (4 + 12 * k) = Ln at *
        generalize c - (4 + 12 * k) = Cn at *
        have n0 : 0 < Ln := by omega
        have n0' : ¬ Ln = 0 := by omega
        have HR := Lib.hid (show R4 bb (off + (4 + 12 * k)) _ _ _ _ W from ⟨d0, d1, d2, d3⟩)
        have j0 : (0 : Int) < Ln := by omega
        have j1 : (1 : Int) < Ln := by omega
        have j2 : (2 : Int) < Ln := by omega
        have j3 : (3 : Int) < Ln := by omega
        have i0' : ¬ (Ln : Int) ≤ 0 := by omega
        have i1' : ¬ (Ln : Int) ≤ 1 := by omega
        have i2' : ¬ (Ln : Int) ≤ 2 := by omega
        have i3' : ¬ (Ln : Int) ≤ 3 := by omega
        have k12 : (12 : Int) ≤ Cn := by omega
        go_region_held3 (fun W => W.cell? ⟨bb, off + (4 + 12 * k), none⟩ = some (.int .u8 y0) ∧ W.cell? ⟨bb, off + (4 + 12 * k) + 1, none⟩ = some (.int .u8 y1) ∧ W.cell? ⟨bb, off + (4 + 12 * k) + 2, none⟩ = some (.int .u8 y2) ∧ W.cell? ⟨bb, off + (4 + 12 * k) + 3, none⟩ = some (.int .u8 y3))
          ((show R4 bb (off + (4 + 12 * k)) (.int .u8 y0) (.int .u8 y1) (.int .u8 y2) (.int .u8 y3) _; first | with_reducible exact HRW.out.kept K5 | (refine HR.out.kept ?_; repeat (first | with_reducible exact Kept.refl _ _ | with_reducible refine Kept.drew ?_ | with_reducible refine Kept.alloc ?_ _))))
          (first
            | (go_at_call 26; refine HGT.out.mono ?_; rintro e w' ⟨rfl, rfl⟩)
            | (refine step_append_at _ rfl (.tmp 44) (.tmp 65) 22 rfl 0 47 i0 _ 5 40 Tryd.underlying22 hi0 hz0 hz1 hz2 rfl (by decide) (.slice A k q) k (flatI (insAll bs k)) rfl (HO.out.drew.alloc _) ⟨W.drew.heap.size, 0, none⟩ 1 1 (flatI [⟨y0, y1, y2, y3, G⟩]) rfl rfl (news_at _ _ _ _ (by simp)) (flatI_one' _) (by unfold maxLen; omega) (by omega) (Nat.zero_le _) ?_; intro A5 q5 w5 ho5 hg5 hat5; have K5 := Kept.push (HK.out.drew.alloc (.cells #[.int .i64 y0, .int .i64 y1, .int .i64 y2, .int .i64 y3, .int .u64 G] 47)) hg5 HF.out))
        all_goals
          have F5 := fresh_push ((HK.out.drew.alloc (.cells #[.int .i64 y0, .int .i64 y1, .int .i64 y2, .int .i64 y3, .int .u64 G] 47))) HF.out hat5
          have HF5 := Lib.hid F5
          have HK5 := Lib.hid K5
          have HO5 := Lib.hid ho5
          clear F5 K5 ho5 hg5 hat5 z0 z1 z2 z3
          go_wp2_with fail
          refine ⟨⟨k + 1, A5, q5, w5, rfl, by omega, rfl, rfl, ?_, HF5.out, HK5.out⟩, by simp [intOf]; omega⟩
          rw [HSN.out, flatI_append]
          exact HO5.out
      · have hkm : k = m := by omega
        subst hkm
        have hAl := refAll_calls W A k q (insAll bs k) (insAll_length bs k) (by omega) (InsAt.of_own ho (insAll_length bs k))
        have HO := Lib.hid ho
        have HF := Lib.hid hf
        have HK := Lib.hid hK
        clear ho hf hK
        cases hp : (insAll bs k).all plainB
        · rw [hp] at hAl
          have HP := Lib.hid hp
          clear hp
          go_wp2_with fail
          refine hAl.mono ?_
          rintro e w2 ⟨rfl, K2⟩
          have HK2 := Lib.hid (HK.out.trans K2)
          clear K2 hAl
          go_wp2_with fail
          go_ret2
          refine DecPost.err ?_ (by decide) HK2.out
          rw [HE.out, HP.out]
          rfl
        · rw [hp] at hAl
          have HP := Lib.hid hp
          clear hp
          go_wp2_with fail
          refine hAl.mono ?_
          rintro e w2 ⟨rfl, K2⟩
          have HK2 := Lib.hid (HK.out.trans K2)
          have HO2 := Lib.hid (K2.own HO.out (fun _ _ h => h))
          clear K2 hAl
          go_wp2_with fail
          go_ret2
          refine ⟨HK2.out, .inl ⟨by rw [HE.out, if_pos HP.out], A, q, ?_, ?_, fun x hx => HF.out x.block (by rw [hx]; rfl)⟩⟩
          · rw [← HM.out]
            rfl
          · rw [← HM.out]
            exact HO2.out
  · have hE : decErr bs = 33 := by
      obtain ⟨g0, g1, _⟩ := HX.out
      unfold decErr
      rw [if_neg (by rw [HN.out]; exact h4), if_pos (by rw [g0, g1]; omega)]
    have HE := Lib.hid hE
    have hs := strL_two x0 x1 r0 r1 hf
    generalize strL [x0, x1] = sx at *
    clear hE hf hG
    go_enter Tryd.func13, Tryd.ntmps13
    go_wp2_with fail
    go_ret2
    exact DecPost.err HE.out (by decide) (Kept.refl _ _)

end Go.Proofs.YtkinnhdagdkhcaaDoor
