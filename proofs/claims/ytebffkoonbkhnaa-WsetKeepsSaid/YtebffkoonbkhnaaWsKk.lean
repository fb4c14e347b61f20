/- WsetKeeps: the walk of the law. -/
import Derived.Test.YtebffkoonbkhnaaWsKe
namespace Go.Proofs.Ytebffkoonbkhnaa
open Go.RowKit Go.Maps

/-- The head of the loop that puts all. -/
def KRel (w0 : World) (b mb : Nat) (l : List (Int × Int)) (ov i : Value) (wr : World) : Prop :=
  ∃ (W : World) (k : Nat), W = wr ∧ i = .int .i64 k ∧ k ≤ l.length ∧ KS w0 W b (l.length : Int) (l.take k) k mb ov (look (ents (l.take k))) k (keys (l.take k)) []
/-- The head of the loop that looks at all. -/
def KGet (G : Nat → Prop) (R : World → Prop) (w0 : World) (b : Nat) (r : Int) (ps : List (Int × Int)) (n m : Nat) (i : Value) (wr : World) : Prop :=
  ∃ (W : World) (k : Nat), W = wr ∧ i = .int .i64 k ∧ k ≤ m ∧ SX G R w0 W b r ps n
theorem take_next {l : List (Int × Int)} {k : Nat} {e : Int × Int} (h : l[k]? = some e) : l.take (k + 1) = l.take k ++ [e] := by
  obtain ⟨hk, rfl⟩ := List.getElem?_eq_some_iff.1 h
  rw [List.take_succ_eq_append_getElem hk]
theorem KWf {l : List (Int × Int)} (h : ∀ e ∈ l, I64 e.1) : ∀ (ps : List (Int × Int)) {e : Int × Int}, (ps = l) → e ∈ ents ps → I64 e.1 := fun ps e hp he => by
  subst hp
  have key : ∀ qs : List (Int × Int), (∀ e ∈ qs, I64 e.1) → ∀ e ∈ ents qs, I64 e.1 := by
    intro qs
    induction qs using snoc_ind with
    | h0 => intro _ e he; simp [ents, stOf] at he
    | h1 qs p ih =>
      intro hq e he
      have hp : I64 p.1 := hq p (by simp)
      have hi := ih (fun e he => hq e (by simp [he]))
      cases hx : idx (ents qs) p.1 with
      | some i =>
        rw [ents_old hx] at he
        rcases List.mem_or_eq_of_mem_set he with he | rfl
        · exact hi e he
        · exact hp
      | none =>
        rw [ents_new hx] at he
        rcases List.mem_append.1 he with he | he
        · exact hi e he
        · rw [List.mem_singleton] at he; subst he; exact hp
  exact key ps h e he
theorem keys_len (ps : List (Int × Int)) : (keys ps).length = (ents ps).length := by unfold keys; rw [List.length_map]

set_option maxRecDepth 100000 in
set_option maxHeartbeats 2000000 in
theorem keeps_walk (A : Option Addr) (n c : Nat) (l : List (Int × Int)) (w : World)
    (ha : l.length = n) (_hma : n ≤ maxLen) (hA : EntsAt w A l) (hwa : ∀ e ∈ l, I64 e.1 ∧ 0 ≤ e.2 ∧ e.2 ≤ 18446744073709551615) :
    Calls Try.prog 12 #[.slice A n c] w fun e w' => e = .returned (.bool true) ∧ Kept (fun _ => False) w w' := by
  by_cases h60 : 60 < n
  · have hor1 : decide ((60 : Int) < n) = true := decide_eq_true (by omega)
    clear hA hwa ha h60
    go_enter Try.func12, Try.ntmps12
    go_wp2_with (go_at_call 58; (with_reducible refine (alive8_calls _).mono ?_); rintro e w1 ⟨rfl, hk1⟩; have HK1 := Lib.hid hk1; clear hk1)
    go_ret
    exact ⟨rfl, HK1.out⟩
  have hd1 : decide ((60 : Int) < n) = false := decide_eq_false (by omega)
  have hn60 : n ≤ 60 := by omega
  have HLA := Lib.hid ha
  have HA := Lib.hid hA
  have HWA := Lib.hid hwa
  clear hA hwa ha h60
  have hmm := @run_makeMap Try.prog
  go_enter Try.func12, Try.ntmps12
  go_wp2_with (first
    | (go_at_call 58; (with_reducible refine (alive8_calls _).mono ?_); rintro e w1 ⟨rfl, hk1⟩; have HK1 := Lib.hid hk1; clear hk1)
    | (go_at_call 31; (refine (SG.new (w0 := w) HK1.out _).mono ?_); rintro e w2 ⟨b, rfl, h2⟩; rw [roomOf_in (by omega) (by omega)] at h2; have H2 := Lib.hid (SX.of h2); clear h2))
  have HNn : Hid ((n : Int) = (l.length : Int)) := Lib.hid (by have := HLA.out; omega)
  have hK0 := KS.init H2.out
  rw [HNn.out] at hK0
  generalize hmb : w2.heap.size = mb at *
  have HK0 := Lib.hid hK0
  clear hK0
  go_loopw [5, 27] (fun ov i wr => KRel w b mb l ov i wr) (fun _ i _ => n - (intOf i).toNat)
  case atStart => exact ⟨_, 0, rfl, rfl, Nat.zero_le _, by simpa [ents, stOf, keys, look] using HK0.out⟩
  case round =>
    obtain ⟨W, k, rfl, rfl, hk, hK⟩ := hrel
    rw [HLA.out] at hk
    by_cases hlt : k < n
    · obtain ⟨⟨x, y⟩, he⟩ : ∃ e, l[k]? = some e := ⟨_, List.getElem?_eq_getElem (by rw [HLA.out]; exact hlt)⟩
      obtain ⟨gb, go, eA, hgb, hc⟩ := (HA.out.kept hK.sx.kept) (by rw [HLA.out]; omega)
      subst eA
      obtain ⟨c0, c1⟩ := hc k (x, y) he
      simp only at c0 c1
      have hw := HWA.out (x, y) (List.mem_of_getElem? he)
      obtain ⟨VA, VC, rfl⟩ := own_form hK.sx.holds.2.1
      have hlk0 : (l.take k).length = k := by rw [List.length_take, HLA.out]; omega
      have hkl := keys_len (l.take k)
      have hel := ents_len (l.take k)
      obtain ⟨q, hq⟩ : ∃ q, (keys (l.take k)).length = q := ⟨_, rfl⟩
      rw [hq] at hkl
      have hq60 : q ≤ 60 := by omega
      obtain ⟨i0, hi0, hz0, hz1, hz2⟩ := info_parts' infoInt
      have HI := Lib.hid hw.1
      have HY := Lib.hid hw.2
      have HNx := Lib.hid (take_next he)
      have HL0 := Lib.hid hlk0
      have HQ := Lib.hid hq
      rw [hq] at hK
      have HK := Lib.hid (hK.add #[.int .i64 x, .int .u64 y])
      obtain ⟨th, hth⟩ : ∃ th, (look (ents (l.take k)) x).isSome = th := ⟨_, rfl⟩
      have HTh := Lib.hid hth
      rw [hq]
      clear hK he hc hw hkl hel hq hlk0 hth HK0
      cases th with
      | true =>
        go_wp2_with (go_at_call 60; (refine (HK.out.put x y HI.out (by rw [HL0.out]; omega) (by omega) (by rw [HL0.out]; have := HNn.out; omega)).mono ?_); rintro e w3 ⟨rfl, h3⟩; have hlo := (h3.look HI.out w3 rfl).1; rw [HTh.out] at hlo; have d0 : w3.cell? ⟨W.heap.size, 0, none⟩ = some (.int .i64 x) := (h3.sx.holds.2.2 (W.heap.size, #[.int .i64 x, .int .u64 y]) (by simp)).cell 0; have d1 : w3.cell? ⟨W.heap.size, 1, none⟩ = some (.int .u64 y) := (h3.sx.holds.2.2 (W.heap.size, #[.int .i64 x, .int .u64 y]) (by simp)).cell 1; obtain ⟨w7, hup, h7, _⟩ := h3.upd (by unfold maxLen; omega) HI.out HY.out; rw [upd_look] at h7; have H7 := Lib.hid h7.less; clear h3 h7)
        have HR : Hid (KS w w7 b (l.length : Int) (l.take (k + 1)) (k + 1) mb (.slice VA q VC) (look (ents (l.take (k + 1)))) (k + 1) (keys (l.take (k + 1))) []) := Lib.hid (by rw [HNx.out, keys_same HTh.out]; exact H7.out)
        first | exact ⟨⟨_, k + 1, rfl, by simp, by rw [HLA.out]; omega, HR.out⟩, by simp [intOf]; omega⟩ | (go_roundw; (case rel => exact ⟨_, k + 1, rfl, by simp, by rw [HLA.out]; omega, HR.out⟩); (case measure => simp [intOf]; omega))
      | false =>
        go_wp2_with (first
          | (go_at_call 60; (refine (HK.out.put x y HI.out (by rw [HL0.out]; omega) (by omega) (by rw [HL0.out]; have := HNn.out; omega)).mono ?_); rintro e w3 ⟨rfl, h3⟩; have hlo := (h3.look HI.out w3 rfl).1; rw [HTh.out] at hlo; have d0 : w3.cell? ⟨W.heap.size, 0, none⟩ = some (.int .i64 x) := (h3.sx.holds.2.2 (W.heap.size, #[.int .i64 x, .int .u64 y]) (by simp)).cell 0; have HOw : Hid (w3.ownsRow 0 3 1 (.slice VA q VC) q (keyL (keys (l.take k)))) := Lib.hid (by have := h3.sx.holds.2.1; rw [HQ.out] at this; exact this); have H3 := Lib.hid h3; clear h3)
          | (at_builtin; (refine wpList_append_own_at _ rfl (.tmp 47) (.tmp 50) 104 rfl 0 3 i0 _ 1 8 Try.underlying104 hi0 hz0 hz1 hz2 rfl (by decide) (.slice VA q VC) q (keyL (keys (l.take k))) rfl (HOw.out.alloc _) ⟨w3.heap.size, 0, none⟩ 1 1 [.int .i64 x] rfl rfl (news_at _ #[.int .i64 x] _ _ (by first | simp | rfl | omega)) (by first | rfl | simp [Value.oneCell']) (by unfold maxLen; omega) (by omega) (Nat.zero_le _) ?_; intro ov1 w6 hown1 hgrow _ hat; obtain ⟨VA1, VC1, rfl⟩ := own_form hown1; have h6 := KS.app H3.out (by rw [HQ.out]; exact hown1) hgrow hat; have d2 : w6.cell? ⟨W.heap.size, 0, none⟩ = some (.int .i64 x) := (h6.sx.holds.2.2 (W.heap.size, #[.int .i64 x, .int .u64 y]) (by simp)).cell 0; have d1 : w6.cell? ⟨W.heap.size, 1, none⟩ = some (.int .u64 y) := (h6.sx.holds.2.2 (W.heap.size, #[.int .i64 x, .int .u64 y]) (by simp)).cell 1; obtain ⟨w7, hup, h7, _⟩ := h6.upd (by unfold maxLen; omega) HI.out HY.out; rw [upd_look] at h7; have H7 := Lib.hid h7.less; clear h6 h7 hown1 hgrow hat)))
        have HR : Hid (KS w w7 b (l.length : Int) (l.take (k + 1)) (k + 1) mb (.slice VA1 (q + 1) VC1) (look (ents (l.take (k + 1)))) (k + 1) (keys (l.take (k + 1))) []) := Lib.hid (by rw [HNx.out, keys_more HTh.out]; exact H7.out)
        first | exact ⟨⟨_, k + 1, rfl, by simp, by rw [HLA.out]; omega, HR.out⟩, by simp [intOf]; omega⟩ | (go_roundw; (case rel => exact ⟨_, k + 1, rfl, by simp, by rw [HLA.out]; omega, HR.out⟩); (case measure => simp [intOf]; omega))
    · obtain rfl : n = k := by omega
      rw [List.take_of_length_le (by rw [HLA.out]; exact Nat.le_refl _)] at hK
      obtain ⟨OA, OC, rfl⟩ := own_form hK.sx.holds.2.1
      have hkl := keys_len l
      have hel := ents_len l
      obtain ⟨q, hq⟩ : ∃ q, (ents l).length = q := ⟨_, rfl⟩
      rw [hq] at hkl
      rw [hkl] at hK ⊢
      have hq60 : q ≤ 60 := by have := HLA.out; omega
      have HQ := Lib.hid hq
      have HKL := Lib.hid hkl
      have HT : Hid ((ents l).take (100 : Int).toNat = ents l) := Lib.hid (List.take_of_length_le (by show _ ≤ 100; omega))
      have HLen : Hid (l.length ≤ 60000) := Lib.hid (by have := HLA.out; omega)
      have HK := Lib.hid hK
      have hqq : ((q : Int) != q) = false := by simp
      have hnn : ((n : Int) != n) = false := by simp
      clear hK hkl hel hq HK0 hlt
      go_wp2_with (first
        | (go_at_call 62; (refine (SX.all HK.out.sx HLen.out 100 (by omega)).mono ?_); rw [HT.out]; rintro e w5 ⟨va, rfl, h5⟩; obtain ⟨VA, VC, rfl⟩ := own_form h5.holds.2; rw [HQ.out] at h5 ⊢; have H5 := Lib.hid h5; clear h5)
        | (go_at_call 56; (refine (len_calls H5.out.set).mono ?_); rw [HQ.out]; rintro e w6 ⟨rfl, rfl⟩)
        | (go_at_call 36; (refine (mark_calls H5.out.set).mono ?_); rw [HLA.out]; rintro e w7 ⟨rfl, rfl⟩))
      go_loopw [81] (fun i wr => KGet (fun z => GK mb (.slice OA q OC) [] z ∨ (Value.slice VA q VC).ownBlock = some z) (fun W => RK mb (.slice OA q OC) (look (ents l)) n (keys l) [] W ∧ RowE (.slice VA q VC) (ents l) W) w b (l.length : Int) l n q i wr) (fun i _ => q - (intOf i).toNat)
      case atStart => exact ⟨_, 0, rfl, rfl, Nat.zero_le _, H5.out⟩
      case round =>
        obtain ⟨Wb, k, rfl, rfl, hk, hS⟩ := hrel
        by_cases hlt : k < q
        · obtain ⟨⟨x, y⟩, he⟩ : ∃ e, (ents l)[k]? = some e := ⟨_, List.getElem?_eq_getElem (by rw [HQ.out]; exact hlt)⟩
          have hkey : (keyL (keys l))[k]? = some (.int .i64 x) := by unfold keyL keys; rw [List.getElem?_map, List.getElem?_map, he]; rfl
          have hrow : Wb.ownsRow 0 129 2 (.slice VA q VC) q (entL (ents l)) := by have := hS.holds.2; unfold RowE at this; rw [HQ.out] at this; exact this
          have hord : Wb.ownsRow 0 3 1 (.slice OA q OC) q (keyL (keys l)) := by have := hS.holds.1.2.1; rw [HKL.out] at this; exact this
          obtain ⟨gv, _, ea, _⟩ := own_some hrow (by omega)
          injection ea with ea _ ea3
          subst ea ea3
          obtain ⟨g1, _, ea, _⟩ := own_some hord (by omega)
          injection ea with ea _ ea3
          subst ea ea3
          obtain ⟨d0, d1⟩ := ent_cells hrow he hlt
          simp only at d0 d1
          have d2 : Wb.cell? ⟨g1, k, none⟩ = some (.int .i64 x) := by rw [hord.cellAt k (by omega)]; exact hkey
          have hll := ents_look l he
          simp only at hll
          have hx : I64 x := KWf (fun e he => (HWA.out e he).1) l rfl (List.mem_of_getElem? he)
          have hlk : ∀ nq, (Instr.lookup 126 (.map (some mb)) (.int .i64 x) false).run Try.prog (Wb.drewN nq) = .ok (.int .u64 y) (Wb.drewN nq) := fun nq => by
            have h := (hS.holds.1.1.look TM.fine (a := x) (I64.wf hx) (Wb.drewN nq) rfl).2
            rw [hll] at h
            exact h
          have HX := Lib.hid hx
          have HGV : Hid (getV l x = .tuple #[.int .u64 y, .bool true]) := Lib.hid (by unfold getV; rw [hll]; rfl)
          have hxx : (x == x) = true := by simp
          have hyy : (y == y) = true := by simp
          have HS := Lib.hid hS
          clear hS he hkey hrow hord hll hx H5
          go_wp2_with (go_at_call 53; (refine (get_calls HS.out.set x HX.out).mono ?_); rw [HGV.out]; rintro e w8 ⟨rfl, rfl⟩)
          go_quiet (fail)
          go_wp2_with fail
          first | exact ⟨⟨_, k + 1, rfl, by simp, by omega, HS.out.keep ((Kept.refl _ _).drewN _)⟩, by simp [intOf]; omega⟩ | (go_roundw; (case rel => exact ⟨_, k + 1, rfl, by simp, by omega, HS.out.keep ((Kept.refl _ _).drewN _)⟩); (case measure => simp [intOf]; omega))
        · obtain rfl : q = k := by omega
          have HS := Lib.hid hS
          clear hS H5 hlt
          go_wp2_with fail
          go_ret
          exact ⟨rfl, HS.out.kept⟩
end Go.Proofs.Ytebffkoonbkhnaa
