/- Layer 5 (check): the walk of CheckCuts. -/
import Derived.Test.YtapmechbliofeaaDoorCkCu
import Derived.Test.YtapmechbliofeaaDoorCkQ
import Derived.Deep.CutRange
import Derived.Deep.DeepCutAuto
import Derived.BigFrame
namespace Go.Proofs.YtapmechbliofeaaDoor
open Go.RowKit

theorem nobody_succ {l : List InsD} {t : Nat} (ht : t < l.length) : nobody l (t + 1) = (nobody l t && !(decide (l[t].op = 17 ∨ l[t].op = 18) && decide (l[t].imm = ((l.length - 1 : Nat) : Int)))) := by
  unfold nobody
  rw [List.take_succ_eq_append_getElem ht, List.all_append]
  simp
theorem InsAt.take {w : World} {A : Option Addr} {l : List InsD} (h : InsAt w A l) (m : Nat) : InsAt w A (l.take m) := fun h0 => by
  have hl : 0 < l.length := by rw [List.length_take] at h0; omega
  obtain ⟨b, off, hA, hb, hc⟩ := h hl
  refine ⟨b, off, hA, hb, fun k s hs j u hu => hc k s ?_ j u hu⟩
  rw [List.getElem?_take] at hs
  split at hs
  · exact hs
  · cases hs

theorem wpList_append_ins_g {w : World} {ops : Array Oper} {rest : List Oper} {o : Oper} {a : Act} {Q : Exit → Act → World → Prop} (hw : Region.wanted o (yielded ops a.tmps) = true) (s x : Operand)
    (ho : o.op = .call { callee := .builtin .append, args := #[s, x], argTypes := #[22, 22] })
    (g n cap : Nat) (xs : List Value) (hs : a.eval s = .slice (some ⟨g, 0, none⟩) n cap) (hown : w.ownsRow 0 38 5 (.slice (some ⟨g, 0, none⟩) n cap) n xs) (A : Option Addr) (m c : Nat) (l : List InsD) (hx : a.eval x = .slice A m c) (hl : l.length = m) (hA : InsAt w A l) (hb : n + m ≤ 1000)
    (h : ∀ g' cap' w', w'.ownsRow 0 38 5 (.slice (some ⟨g', 0, none⟩) (n + m) cap') (n + m) (xs ++ flatI l) → w.grownBy w' (some g) → (g' = g ∨ g' = w.heap.size) → wpList Tryd.prog ops Q rest (a.put o.dst (.slice (some ⟨g', 0, none⟩) (n + m) cap')) w') :
    wpList Tryd.prog ops Q (o :: rest) a w := by
  refine BigFrame.wpList_want hw fun K hK => ?_
  obtain ⟨g', cap', w', hr, h2, h3, h4⟩ := run_append_ins w o.type g n cap xs hown A m c l hl hA hb
  unfold Oper.wp execOp
  simp only [ho, resolve, invoke, builtin, Sem.run_bind, Sem.run_pure, Result.andThen_ok, List.map_toArray, List.map_cons, List.map_nil, hs, hx, hr]
  exact hK _ _ (h g' cap' w' h2 h3 h4)

set_option maxRecDepth 100000 in
set_option maxHeartbeats 8000000 in
theorem cuts_walk (A : Option Addr) (n c : Nat) (l : List InsD) (w : World) (hn : l.length = n) (hm : n ≤ maxLen) (hl : InsAt w A l) (hi : ∀ d ∈ l, 0 ≤ d.imm ∧ d.imm < 18446744073709551616) (hcap : n ≤ c) (T : Tabs w) :
    Calls Tryd.prog 6 #[.slice A n c] w (Good w) := by
  have HM := Lib.hid hm
  unfold maxLen at hm
  have HT := Lib.hid T
  have HI := Lib.hid hi
  have HN := Lib.hid hn
  have HL := Lib.hid hl
  clear T hi hn hl
  by_cases h40 : 40 < n
  · go_enter Tryd.func6, Tryd.ntmps6
    go_wp2_with fail
    refine (alive_calls _ HT.out).mono ?_
    rintro e w1 ⟨rfl, K1⟩
    go_wp2_with fail
    go_ret
    exact ⟨rfl, K1⟩
  have h40' : n ≤ 40 := by omega
  clear h40 hm
  cases hr : rightB l
  · have HRB := Lib.hid hr
    clear hr
    go_enter Tryd.func6, Tryd.ntmps6
    go_wp2_with fail
    refine (alive_calls _ HT.out).mono ?_
    rintro e w1 ⟨rfl, K1⟩
    have HK1 := Lib.hid K1
    clear K1
    go_wp2_with fail
    refine (right_calls _ A n c l HN.out HM.out (HL.out.kept HK1.out) HI.out (HT.out.kept HK1.out)).mono ?_
    rintro e w2 ⟨rfl, K2⟩
    rw [HRB.out]
    go_wp2_with fail
    go_ret
    exact ⟨rfl, HK1.out.trans K2⟩
  have HRB := Lib.hid hr
  have HRP := Lib.hid ((rightB_iff l).1 hr)
  clear hr
  obtain ⟨m, rfl⟩ : ∃ m, n = m + 1 := ⟨n - 1, by have := HRP.out.pos; have := HN.out; omega⟩
  have HLm : Hid (l.length - 1 = m) := Lib.hid (by have := HN.out; omega)
  have hA0 : ∃ sb so, A = some ⟨sb, so, none⟩ := by
    obtain ⟨b, off, h, _⟩ := HL.out HRP.out.pos
    exact ⟨b, off, h⟩
  obtain ⟨sb, so, rfl⟩ := hA0
  go_enter Tryd.func6, Tryd.ntmps6
  go_wp2_with fail
  refine (alive_calls _ HT.out).mono ?_
  rintro e w1 ⟨rfl, K1⟩
  have HK1 := Lib.hid K1
  clear K1
  go_wp2_with fail
  refine (right_calls _ _ (m + 1) c l HN.out HM.out (HL.out.kept HK1.out) HI.out (HT.out.kept HK1.out)).mono ?_
  rintro e w2 ⟨rfl, K2⟩
  have HK2 := Lib.hid (HK1.out.trans K2)
  clear K2
  rw [HRB.out]
  have HCut := Lib.hid (cut_right HRP.out)
  unfold cutB at HCut
  rw [HLm.out, HN.out] at HCut
  obtain ⟨b0, hb0⟩ : ∃ b0, (decide (1 < m + 1) && endsB (lastOp (l.take m))) = b0 := ⟨_, rfl⟩
  rw [hb0] at HCut
  have HB0 := Lib.hid hb0
  have hcases : (m = 0 ∧ b0 = false) ∨ (∃ p q, m = p + 1 ∧ w2.cell? ⟨sb, so + p * 5, none⟩ = some (.int .i64 q) ∧ b0 = endsB q) := by
    rcases Nat.eq_zero_or_pos m with h0 | h0
    · subst h0
      exact .inl ⟨rfl, hb0.symm⟩
    · refine .inr ⟨m - 1, lastOp (l.take m), by omega, ?_, ?_⟩
      · have hp : m - 1 < l.length := by have := HN.out; omega
        obtain ⟨b, off, hA, _, c0, _⟩ := ins_cells (HL.out.kept HK2.out) hp
        have hA' := Option.some.inj hA
        injection hA' with e1 e2
        subst e1 e2
        rw [c0, lastOp_eq (by rw [List.length_take]; have := HN.out; omega)]
        congr 2
        rw [List.getElem_take]
        congr 2
        rw [List.length_take, HN.out]
        omega
      · rw [← hb0, decide_eq_true (by omega), Bool.true_and]
  clear hb0
  have hstart : ∀ W : World, Kept (fun _ => False) w W → ∃ (t : Nat) (W' : World), W' = W ∧ t ≤ m ∧ Value.int .i64 0 = .int .i64 t ∧ Value.bool b0 = .bool (b0 && nobody l t) ∧ Kept (fun _ => False) w W' := fun W k => ⟨0, W, rfl, Nat.zero_le _, rfl, by simp [nobody], k⟩
  have HST := Lib.hid hstart
  clear hstart
  go_upto_region 6 with fail
  go_cut [4] (fun ok wx => ok = .bool b0 ∧ wx = w2)
  case first =>
    rcases (show (m ≤ 0 ∧ b0 = false) ∨ (0 < m ∧ w2.cell? ⟨sb, so + (m - 1) * 5, none⟩ = some (.int .i64 20) ∧ b0 = true) ∨ (0 < m ∧ w2.cell? ⟨sb, so + (m - 1) * 5, none⟩ = some (.int .i64 21) ∧ b0 = true) ∨ (∃ q, 0 < m ∧ w2.cell? ⟨sb, so + (m - 1) * 5, none⟩ = some (.int .i64 q) ∧ (q == 20) = false ∧ (q == 21) = false ∧ b0 = false) by
      rcases hcases with ⟨h, h'⟩ | ⟨p, q, h1, h2, h3⟩
      · exact .inl ⟨by omega, h'⟩
      · have e : p = m - 1 := by omega
        rw [e] at h2
        have h0 : 0 < m := by omega
        by_cases h20 : q = 20
        · subst h20
          exact .inr (.inl ⟨h0, h2, h3⟩)
        by_cases h21 : q = 21
        · subst h21
          exact .inr (.inr (.inl ⟨h0, h2, h3⟩))
        · refine .inr (.inr (.inr ⟨q, h0, h2, beq_eq_false_iff_ne.2 h20, beq_eq_false_iff_ne.2 h21, ?_⟩))
          rw [h3]
          unfold endsB
          rw [decide_eq_false_iff_not]
          omega) with ⟨hm0, hb⟩ | ⟨hm0, hc, hb⟩ | ⟨hm0, hc, hb⟩ | ⟨q, hm0, hc, hq1, hq2, hb⟩
    all_goals
      clear hcases
      subst hb
      go_wp2_with fail
      go_meet
      exact ⟨rfl, rfl⟩
  case rest =>
  obtain ⟨rfl, rfl⟩ := hcut
  clear hcases
  go_wp2_with fail
  go_loopw [4, 45] (fun ok i wr => ∃ (t : Nat) (W : World), W = wr ∧ t ≤ m ∧ i = .int .i64 t ∧ ok = .bool (b0 && nobody l t) ∧ Kept (fun _ => False) w W) (fun _ i _ => m - (intOf i).toNat)
  case atStart => exact HST.out _ HK2.out
  case round =>
    obtain ⟨t, wr, rfl, ht, rfl, rfl, hK⟩ := hrel
    have HK := Lib.hid hK
    clear hK
    by_cases hlt : t < m
    · have hpos : 0 < m := by omega
      have hlt' : t < l.length := by have := HN.out; omega
      obtain ⟨b, off, hA, _, c0, c1, c2, c3, c4⟩ := ins_cells (HL.out.kept HK.out) hlt'
      have hA' := Option.some.inj hA
      injection hA' with e1 e2
      subst e1 e2
      clear hA
      have hns := nobody_succ hlt'
      rw [HLm.out] at hns
      obtain ⟨i0, i1⟩ := HI.out l[t] (List.getElem_mem _)
      generalize l[t] = d at *
      obtain ⟨op, a, b, cc, imm⟩ := d
      simp only at *
      have HNS := Lib.hid hns
      clear hns
      obtain ⟨ok, hok⟩ : ∃ ok, (b0 && nobody l t) = ok := ⟨_, rfl⟩
      rw [hok]
      have HNX : Hid ((b0 && nobody l (t + 1)) = (ok && !(decide (op = 17 ∨ op = 18) && decide (imm = (m : Int))))) := Lib.hid (by rw [HNS.out, ← Bool.and_assoc, hok])
      clear hok
      cases ok
      · rw [Bool.false_and] at HNX
        go_wp2_with fail
        exact ⟨⟨t + 1, _, rfl, hlt, rfl, by rw [HNX.out], HK.out.alloc _⟩, by simp [intOf]; omega⟩
      · rw [Bool.true_and] at HNX
        by_cases ho : op = 17 ∨ op = 18
        · rw [decide_eq_true ho, Bool.true_and] at HNX
          by_cases him : imm = (m : Int)
          · rw [decide_eq_true him] at HNX
            subst him
            have hmm : ((m : Int) == m) = true := beq_self_eq_true _
            rcases ho with rfl | rfl
            all_goals
              go_wp2_with fail
              exact ⟨⟨t + 1, _, rfl, hlt, rfl, by rw [HNX.out]; rfl, HK.out.alloc _⟩, by simp [intOf]; omega⟩
          · rw [decide_eq_false him] at HNX
            have hmm : (imm == (m : Int)) = false := by simpa using him
            rcases ho with rfl | rfl
            all_goals
              go_wp2_with fail
              exact ⟨⟨t + 1, _, rfl, hlt, rfl, by rw [HNX.out]; rfl, HK.out.alloc _⟩, by simp [intOf]; omega⟩
        · rw [decide_eq_false ho, Bool.false_and] at HNX
          have n17 : (op == 17) = false := by simp; omega
          have n18 : (op == 18) = false := by simp; omega
          go_wp2_with fail
          exact ⟨⟨t + 1, _, rfl, hlt, rfl, by rw [HNX.out]; rfl, HK.out.alloc _⟩, by simp [intOf]; omega⟩
    · have htm : t = m := by omega
      subst htm
      rw [← HCut.out]
      go_upto_region 12 with fail
      have HOE := Lib.hid ((World.ownsRow_lit (base := 0) (e := 38) (size := 5) wr #[] 0 (Nat.zero_le _) (by decide) rfl))
      have HRD := Lib.hid (fun W => InsAt.of_own (l := [retD]) (World.ownsRow_lit (base := 0) (e := 38) (size := 5) W #[.int .i64 20, .int .i64 0, .int .i64 0, .int .i64 0, .int .u64 0] 1 (Nat.zero_le _) (by decide) rfl) rfl)
      have HMD := Lib.hid (fun W => InsAt.of_own (l := [movD]) (World.ownsRow_lit (base := 0) (e := 38) (size := 5) W #[.int .i64 1, .int .i64 0, .int .i64 0, .int .i64 0, .int .u64 0] 1 (Nat.zero_le _) (by decide) rfl) rfl)
      go_upto_region 13 with (at_builtin; first
        | (refine wpList_append_ins rfl (.tmp 69) (.tmp 70) rfl wr.heap.size 0 0 [] rfl HOE.out (some ⟨sb, so, none⟩) (t + 1) c l rfl HN.out (HL.out.kept (HK.out.alloc _)) (by omega) ?_; intro g4 q4 w4 ho4 hg4 hat4; rw [Nat.zero_add] at ho4)
        | (go_loud (refine wpList_append_ins rfl (.tmp 71) (.tmp 73) rfl g4 (t + 1) q4 _ rfl (ho4.alloc _) (some ⟨w4.heap.size, 0, none⟩) 1 1 [retD] rfl rfl (HRD.out w4) (by omega) ?_); intro g5 q5 w5 ho5 hg5 hat5))
      have hK4 : Kept (fun _ => False) w w4 := Kept.push (HK.out.alloc _) hg4 (fun z hz => by injection hz with hz; have := HK.out.size; omega)
      have hK5 : Kept (fun _ => False) w w5 := Kept.push (hK4.alloc _) hg5 (fun z hz => by
        injection hz with hz
        have := HK.out.size
        rcases hat4 with h | h
        · omega
        · simp at h; omega)
      have HK5 := Lib.hid hK5
      rw [List.nil_append, ← flatI_append] at ho5
      have HO5 := Lib.hid ho5
      have hTl : (l.take t).length = t := by rw [List.length_take, HN.out]; omega
      have hML : (l ++ [retD]).length = t + 1 + 1 := by rw [List.length_append, HN.out]; rfl
      have HTl := Lib.hid hTl
      have HML := Lib.hid hML
      have hmx : t ≤ maxLen := Nat.le_of_succ_le HM.out
      have HMX := Lib.hid hmx
      clear hK4 hK5 ho4 ho5 hg4 hg5 hat4 hat5 hTl hML hmx
      go_wp2_with fail
      refine (right_calls _ _ t c (l.take t) HTl.out HMX.out ((HL.out.kept HK5.out).take t) (fun d hd => HI.out d (List.mem_of_mem_take hd)) (HT.out.kept HK5.out)).mono ?_
      rintro e w6 ⟨rfl, K6⟩
      have HK56 := Lib.hid K6
      have HK6 := Lib.hid (HK5.out.trans K6)
      have hbb : (rightB (l.take t) == rightB (l.take t)) = true := beq_self_eq_true _
      generalize rightB (l.take t) = rt at *
      clear K6
      go_wp2_with fail
      refine (right_calls _ _ (t + 1 + 1) q5 (l ++ [retD]) HML.out (by unfold maxLen; omega) ((InsAt.of_own HO5.out HML.out).kept HK56.out) (fun d hd => by
        rcases List.mem_append.1 hd with h | h
        · exact HI.out d h
        · simp at h; subst h; exact ⟨by decide, by decide⟩) (HT.out.kept HK6.out)).mono ?_
      rintro e w7 ⟨rfl, K7⟩
      rw [more_right HRP.out (by rw [HN.out]; omega)]
      have HK7 := Lib.hid (HK6.out.trans K7)
      clear K7
      have HOE7 := Lib.hid ((World.ownsRow_lit (base := 0) (e := 38) (size := 5) w7 #[] 0 (Nat.zero_le _) (by decide) rfl))
      go_wp2_with (at_builtin; first
        | (refine wpList_append_ins_g (by first | rfl | simp [Region.wanted, yielded]) (.tmp 86) (.tmp 87) rfl w7.heap.size 0 0 [] rfl HOE7.out (some ⟨sb, so, none⟩) (t + 1) c l rfl HN.out (HL.out.kept (HK7.out.alloc _)) (by omega) ?_; intro g8 q8 w8 ho8 hg8 hat8; rw [Nat.zero_add] at ho8)
        | (go_loud (refine wpList_append_ins_g (by first | rfl | simp [Region.wanted, yielded]) (.tmp 88) (.tmp 90) rfl g8 (t + 1) q8 _ rfl (ho8.alloc _) (some ⟨w8.heap.size, 0, none⟩) 1 1 [movD] rfl rfl (HMD.out w8) (by omega) ?_); intro g9 q9 w9 ho9 hg9 hat9))
      have hK8 : Kept (fun _ => False) w w8 := Kept.push (HK7.out.alloc _) hg8 (fun z hz => by injection hz with hz; have := HK7.out.size; omega)
      have hK9 : Kept (fun _ => False) w w9 := Kept.push (hK8.alloc _) hg9 (fun z hz => by
        injection hz with hz
        have := HK7.out.size
        rcases hat8 with h | h
        · omega
        · simp at h; omega)
      have HK9 := Lib.hid hK9
      rw [List.nil_append, ← flatI_append] at ho9
      have HO9 := Lib.hid ho9
      clear hK8 hK9 ho8 ho9 hg8 hg9 hat8 hat9
      have hML9 : (l ++ [movD]).length = t + 1 + 1 := by rw [List.length_append, HN.out]; rfl
      have HML9 := Lib.hid hML9
      clear hML9
      refine (right_calls _ _ (t + 1 + 1) q9 (l ++ [movD]) HML9.out (by unfold maxLen; omega) (InsAt.of_own HO9.out HML9.out) (fun d hd => by
        rcases List.mem_append.1 hd with h | h
        · exact HI.out d h
        · simp at h; subst h; exact ⟨by decide, by decide⟩) (HT.out.kept HK9.out)).mono ?_
      rintro e w10 ⟨rfl, K10⟩
      rw [more_wrong]
      have HK10 := Lib.hid (HK9.out.trans K10)
      clear K10
      go_wp2_with fail
      go_ret
      exact ⟨rfl, HK10.out⟩
end Go.Proofs.YtapmechbliofeaaDoor
