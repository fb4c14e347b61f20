/- WsetMarks: the walk of the law. -/
import Derived.Test.YtlpmgbimffmmkaaWsZ
import Derived.Test.YtlpmgbimffmmkaaWsMm
namespace Go.Proofs.Ytlpmgbimffmmkaa
open Go.RowKit Go.Maps

def MkR (w : World) (gl b1 b2 : Nat) (cs : Array Value) (r : Int) (D : List SlD) (mv i : Value) (wr : World) : Prop :=
  ∃ (W : World) (k : Nat), W = wr ∧ i = .int .i64 k ∧ k ≤ 3 ∧ (∀ z, mv.ownBlock = some z → w.heap.size ≤ z) ∧ SZ (GM gl mv) (RM gl cs r D k mv) w W b1 b2 r (PS r D k) (PS r D k) (cntS D k) (cntS D k)
def InM (G : Nat → Prop) (R : World → Prop) (w : World) (b1 b2 : Nat) (r : Int) (P l : List (Int × Int)) (c : Nat) (i : Value) (wr : World) : Prop :=
  ∃ (W : World) (j : Nat), W = wr ∧ i = .int .i64 j ∧ j ≤ l.length ∧ SZ G R w W b1 b2 r (putsS r P (l.take j)) (putsS r P (l.take j)) (c + j) (c + j)

set_option maxRecDepth 100000 in
set_option maxHeartbeats 600000 in
theorem marks_law (room : Int) (A : Option Addr) (n c : Nat) (la : List (Int × Int)) (B : Option Addr) (m d : Nat) (lb : List (Int × Int)) (C : Option Addr) (o f : Nat) (lc : List (Int × Int)) (w : World) (_h0 : Int64 room)
    (ha : la.length = n) (_hma : n ≤ maxLen) (hA : EntsAt w A la) (hwa : WfE la) (hb : lb.length = m) (_hmb : m ≤ maxLen) (hB : EntsAt w B lb) (hwb : WfE lb) (hc : lc.length = o) (_hmc : o ≤ maxLen) (hC : EntsAt w C lc) (hwc : WfE lc) :
    Calls Try.prog 12 #[.int .i64 room, .slice A n c, .slice B m d, .slice C o f] w fun e w' => e = .returned (.bool true) ∧ Kept (fun _ => False) w w' := by
  by_cases h40 : 40 < n ∨ 40 < m ∨ 40 < o
  · have hor : (decide ((40 : Int) < n) = true ∧ True ∧ True) ∨ (decide ((40 : Int) < n) = false ∧ decide ((40 : Int) < m) = true ∧ True) ∨ (decide ((40 : Int) < n) = false ∧ decide ((40 : Int) < m) = false ∧ decide ((40 : Int) < o) = true) := by
      by_cases h : 40 < n
      · exact .inl ⟨decide_eq_true (by omega), trivial, trivial⟩
      · by_cases h' : 40 < m
        · exact .inr (.inl ⟨decide_eq_false (by omega), decide_eq_true (by omega), trivial⟩)
        · exact .inr (.inr ⟨decide_eq_false (by omega), decide_eq_false (by omega), decide_eq_true (by omega)⟩)
    obtain ⟨hor1, hor2, hor3⟩ | ⟨hor1, hor2, hor3⟩ | ⟨hor1, hor2, hor3⟩ := hor
    all_goals
      clear hA hwa hB hwb hC hwc ha hb hc h40
      go_enter Try.func12, Try.ntmps12
      go_wp2_with (go_at_call 34; (with_reducible refine (alive8_calls _).mono ?_); rintro e w1 ⟨rfl, hk1⟩; have HK1 := Lib.hid hk1; clear hk1)
      go_ret
      exact ⟨rfl, HK1.out⟩
  have hn40 : n ≤ 40 := by omega
  have hm40 : m ≤ 40 := by omega
  have ho40 : o ≤ 40 := by omega
  obtain ⟨r, hr, er⟩ := andB_bound room 63 (by decide)
  have er : bits BinOp.and IntKind.i64 room 63 = (r : Int) := er
  have HLA := Lib.hid ha
  have HLB := Lib.hid hb
  have HLC := Lib.hid hc
  have HA := Lib.hid hA
  have HB := Lib.hid hB
  have HC := Lib.hid hC
  have HWA := Lib.hid hwa
  have HWB := Lib.hid hwb
  have HWC := Lib.hid hwc
  have hd1 : decide ((40 : Int) < n) = false := decide_eq_false (by omega)
  have hd2 : decide ((40 : Int) < m) = false := decide_eq_false (by omega)
  have hd3 : decide ((40 : Int) < o) = false := decide_eq_false (by omega)
  clear hA hB hC hwa hwb hwc h40 ha hb hc
  go_enter Try.func12, Try.ntmps12
  go_wp2_with (first
    | (go_at_call 34; (with_reducible refine (alive8_calls _).mono ?_); rintro e w1 ⟨rfl, hk1⟩; have HK1 := Lib.hid hk1; clear hk1)
    | (go_at_call 35; (refine (new_calls _ w1).mono ?_); rintro e w2 ⟨b1, rfl, h2, k2⟩; rw [roomOf_in (by omega) (by omega)] at h2; have H2 := Lib.hid h2; have K2 := Lib.hid k2; clear h2 k2)
    | (go_at_call 35; (refine (new_calls _ w2).mono ?_); rintro e w3 ⟨b2, rfl, h3, k3⟩; rw [roomOf_in (by omega) (by omega)] at h3; have H3 : Hid (SZ (fun _ => False) (fun _ => True) w w3 b1 b2 r [] [] 0 0) := Lib.hid (SZ.of (H2.out.mono (fun _ _ h => Nat.le_trans HK1.out.size h)) (HK1.out.trans K2.out) h3 k3 (fun _ h => h)); clear h3 k3))
  obtain ⟨D, hD⟩ : ∃ D : List SlD, D = [⟨A, n, c, la⟩, ⟨B, m, d, lb⟩, ⟨C, o, f, lc⟩] := ⟨_, rfl⟩
  have HD : Hid (∀ s ∈ D, OkS w s) := Lib.hid (by
    rw [hD]
    intro s hs
    simp only [List.mem_cons, List.not_mem_nil, or_false] at hs
    rcases hs with rfl | rfl | rfl
    · exact ⟨HLA.out, hn40, HA.out, HWA.out⟩
    · exact ⟨HLB.out, hm40, HB.out, HWB.out⟩
    · exact ⟨HLC.out, ho40, HC.out, HWC.out⟩)
  have HDL : Hid (∀ k, k < 3 → ∃ s, D[k]? = some s ∧ #[Value.slice A n c, Value.slice B m d, Value.slice C o f][k]? = some (.slice s.A s.n s.c)) := Lib.hid (by
    intro k hk
    rw [hD]
    obtain rfl | rfl | rfl : k = 0 ∨ k = 1 ∨ k = 2 := by omega
    · exact ⟨_, rfl, rfl⟩
    · exact ⟨_, rfl, rfl⟩
    · exact ⟨_, rfl, rfl⟩)
  have HCnt : Hid (∀ k, k ≤ 3 → cntS D k ≤ 120) := Lib.hid (fun k hk => by
    have := cnt_le D k (fun s hs => by have := HD.out s hs; unfold OkS at this; omega)
    omega)
  clear hD
  obtain ⟨gl, hgl⟩ : ∃ gl, w3.heap.size + 1 = gl := ⟨_, rfl⟩
  obtain ⟨gm, hgm⟩ : ∃ gm, w3.heap.size = gm := ⟨_, rfl⟩
  have h4 : SZ (GM gl (.slice (some ⟨gm, 0, none⟩) 0 0)) (RM gl #[Value.slice A n c, Value.slice B m d, Value.slice C o f] r D 0 (.slice (some ⟨gm, 0, none⟩) 0 0)) w ((w3.alloc (.cells #[] 3)).alloc (.cells #[Value.slice A n c, Value.slice B m d, Value.slice C o f] 78)) b1 b2 r [] [] 0 0 := by
    have k4 : Kept (fun _ => False) w3 ((w3.alloc (.cells #[] 3)).alloc (.cells #[Value.slice A n c, Value.slice B m d, Value.slice C o f] 78)) := ((Kept.refl _ _).alloc _).alloc _
    have hs4 : ((w3.alloc (.cells #[] 3)).alloc (.cells #[Value.slice A n c, Value.slice B m d, Value.slice C o f] 78)).heap.size = w3.heap.size + 2 := by simp
    have hrow := (own_base (own_empty w3 3 1) (base' := 0) (fun _ _ => Nat.zero_le _))
    rw [hgm] at hrow
    refine H3.out.regroup k4 (fun _ _ h => h.elim) ?_ ?_ (H3.out.kept.trans k4) ⟨?_, ?_⟩ RM.stays
    · rintro z (rfl | e)
      · exact .inr (by omega)
      · simp [Value.ownBlock] at e; exact .inr (by omega)
    · rintro z (rfl | e)
      · omega
      · simp [Value.ownBlock] at e; omega
    · exact Blk.new' _ _ _ _ (by simp; omega)
    · exact ((Kept.refl (fun _ => False) _).alloc _).own hrow (fun _ _ h => h)
  have hge : w.heap.size ≤ gm := by rw [← hgm]; exact H3.out.kept.size
  rw [hgm]
  rw [hgm] at hgl
  rw [hgl]
  generalize ((w3.alloc (.cells #[] 3)).alloc (.cells #[Value.slice A n c, Value.slice B m d, Value.slice C o f] 78)) = w4 at *
  have H4 := Lib.hid h4
  clear h4 H3 H2 K2 hgm hgl
  generalize #[Value.slice A n c, Value.slice B m d, Value.slice C o f] = cs at *
  go_loopw [11, 43] (fun mv i wr => MkR w gl b1 b2 cs r D mv i wr) (fun _ i _ => 3 - (intOf i).toNat)
  case atStart => exact ⟨_, 0, rfl, rfl, by omega, fun z e => by simp [Value.ownBlock] at e; omega, H4.out⟩
  case round =>
    obtain ⟨W, k, rfl, rfl, hk, hmw, hS⟩ := hrel
    by_cases hlt : k < 3
    · obtain ⟨⟨sA, sn, sc, sl⟩, hs, hcs⟩ := HDL.out k hlt
      simp only at hcs
      obtain ⟨hsl, hsn, hsA, hsw⟩ := HD.out _ (List.mem_of_getElem? hs)
      simp only at hsl hsn hsA hsw
      have c0 : W.cell? ⟨gl, k, none⟩ = some (.slice sA sn sc) := (hS.holds.1.cell k).trans hcs
      obtain ⟨VA, VC, rfl⟩ := own_form hS.holds.2
      obtain ⟨i0, hi0, hz0, hz1, hz2⟩ := info_parts' infoInt
      have HS := Lib.hid hS
      have HMw := Lib.hid hmw
      have HSl := Lib.hid hsl
      have HSA := Lib.hid hsA
      have HSw := Lib.hid hsw
      have HPn := Lib.hid (PS_next (r := r) hs)
      have HCn := Lib.hid (cntS_next hs)
      have HC120 := Lib.hid (HCnt.out k hk)
      have HPl := Lib.hid (PS_len r D k)
      clear hS hmw hsl hsA hsw hs hcs
      go_wp2_with (first
        | (go_at_call 42; (refine (SZ.markx HS.out).mono ?_); rintro e w5 ⟨rfl, rfl⟩)
        | (at_builtin; refine wpList_append_own_at _ rfl (.tmp 47) (.tmp 50) 73 rfl 0 3 i0 _ 1 8 Try.underlying73 hi0 hz0 hz1 hz2 rfl (by decide) (.slice VA k VC) k (marksL r D k) rfl (HS.out.holds.2.alloc _) ⟨W.heap.size, 0, none⟩ 1 1 [.int .i64 ((PS r D k).length : Nat)] rfl rfl (news_at _ #[.int .i64 ((PS r D k).length : Nat)] _ _ (by first | simp | rfl | omega)) (by first | rfl | simp [Value.oneCell']) (by unfold maxLen; omega) (by omega) (Nat.zero_le _) ?_; intro mv1 w6 hown1 hgrow _ hat; obtain ⟨VA1, VC1, rfl⟩ := own_form hown1))
      obtain ⟨h6, hm6⟩ := mark_more HS.out HMw.out hown1 hgrow hat
      have H6 := Lib.hid h6
      have HM6 := Lib.hid hm6
      clear h6 hm6 hown1 hgrow hat HS HMw
      go_loopw [54] (fun i wr => InM (GM gl (.slice VA1 (k + 1) VC1)) (RM gl cs r D (k + 1) (.slice VA1 (k + 1) VC1)) w b1 b2 r (PS r D k) sl (cntS D k) i wr) (fun i _ => sn - (intOf i).toNat)
      case atStart => exact ⟨_, 0, rfl, rfl, Nat.zero_le _, by simpa [putsS] using H6.out⟩
      case round =>
        obtain ⟨Wj, j, rfl, rfl, hj, hS⟩ := hrel
        rw [HSl.out] at hj
        by_cases hjl : j < sn
        · obtain ⟨⟨x, y⟩, he⟩ : ∃ e, sl[j]? = some e := ⟨_, List.getElem?_eq_getElem (by rw [HSl.out]; exact hjl)⟩
          obtain ⟨gb, go, eA, hgb, hc⟩ := (HSA.out.kept hS.kept) (by rw [HSl.out]; omega)
          subst eA
          obtain ⟨d0, d1⟩ := hc j (x, y) he
          simp only at d0 d1
          have hpl := putsS_len r (sl.take j) (PS r D k)
          rw [List.length_take, HSl.out] at hpl
          have hh := HPl.out
          have hh2 := HC120.out
          have HI := Lib.hid (HSw.out.at he).1
          have HLen : Hid ((putsS r (PS r D k) (sl.take j)).length ≤ 60000) := Lib.hid (by omega)
          have HCt : Hid (cntS D k + j ≤ 60000) := Lib.hid (by omega)
          have HNx := Lib.hid (putsS_next (r := r) (ps := PS r D k) he)
          have HS := Lib.hid hS
          obtain ⟨pe, hpe⟩ : ∃ pe, putErr r (putsS r (PS r D k) (sl.take j)) x = pe := ⟨_, rfl⟩
          have HPE := Lib.hid hpe
          have hbne : (pe != pe) = false := by simp
          clear hS he hc hpl hh hh2 hpe
          go_wp2_with fail
          have HE := Lib.hid (HS.out.add #[.int .i64 x, .int .u64 y] 80)
          generalize Wj.alloc (.cells #[.int .i64 x, .int .u64 y] 80) = We at *
          generalize Wj.heap.size = ge at *
          have HC1 := Lib.hid (fun (W : World) (k : Kept (fun _ => False) We W) => SZ.putx (HE.out.keep k) x y HI.out HLen.out HCt.out)
          rw [HPE.out] at HC1
          have HL0 : Hid (We.drew.cell? ⟨ge, 0, none⟩ = some (.int .i64 x) ∧ We.drew.cell? ⟨ge, 1, none⟩ = some (.int .u64 y)) := Lib.hid ⟨HE.out.holds.2.drew.cell 0, HE.out.holds.2.drew.cell 1⟩
          have HL1 : Hid (We.cell? ⟨ge, 0, none⟩ = some (.int .i64 x) ∧ We.cell? ⟨ge, 1, none⟩ = some (.int .u64 y)) := Lib.hid ⟨HE.out.holds.2.cell 0, HE.out.holds.2.cell 1⟩
          go_region_held3 (fun W => W.cell? ⟨ge, 0, none⟩ = some (.int .i64 x) ∧ W.cell? ⟨ge, 1, none⟩ = some (.int .u64 y))
            (with_reducible (first | exact HL8.out | exact HL7.out | exact HL1.out | exact HL0.out))
            (first
              | (go_at_call 40; (with_reducible refine (HC1.out _ (Kept.refl _ _).drew).mono ?_); rintro e w7 ⟨rfl, h7⟩; have H7 := Lib.hid h7; have HL7 : Hid (w7.cell? ⟨ge, 0, none⟩ = some (.int .i64 x) ∧ w7.cell? ⟨ge, 1, none⟩ = some (.int .u64 y)) := Lib.hid ⟨h7.holds.2.cell 0, h7.holds.2.cell 1⟩; have HC2 := Lib.hid (SZ.putx h7.swap x y HI.out HLen.out HCt.out); rw [HPE.out] at HC2; clear h7)
              | (go_at_call 40; (with_reducible refine (HC2.out).mono ?_); rintro e w8 ⟨rfl, h8⟩; have HL8 : Hid (w8.cell? ⟨ge, 0, none⟩ = some (.int .i64 x) ∧ w8.cell? ⟨ge, 1, none⟩ = some (.int .u64 y)) := Lib.hid ⟨h8.holds.2.cell 0, h8.holds.2.cell 1⟩; have H8 := Lib.hid h8.swap; clear h8))
          have h9 := SZ.less HS.out H8.out
          rw [← HNx.out] at h9
          have H9 := Lib.hid h9
          clear h9
          go_wp2_with fail
          first | exact ⟨⟨_, j + 1, rfl, by simp, by rw [HSl.out]; omega, H9.out⟩, by simp [intOf]; omega⟩ | (go_roundw; (case rel => exact ⟨_, j + 1, rfl, by simp, by rw [HSl.out]; omega, H9.out⟩); (case measure => simp [intOf]; omega)) | (go_roundw; (case rel => exact ⟨_, j + 1, rfl, by simp, by rw [HSl.out]; omega, H9.out.keep ((Kept.refl _ _).drewN _)⟩); (case measure => simp [intOf]; omega))
        · obtain rfl : sn = j := by omega
          rw [List.take_of_length_le (by rw [HSl.out]; exact Nat.le_refl _), ← HPn.out] at hS
          have hcn := HCn.out
          rw [HSl.out] at hcn
          rw [← hcn] at hS
          have HS := Lib.hid hS
          clear hS hj hjl hcn
          go_wp2_with fail
          exact ⟨⟨_, k + 1, rfl, by simp, by omega, HM6.out, HS.out⟩, by simp [intOf]; omega⟩
    · obtain rfl : k = 3 := by omega
      have hl0 := HD.out
      have HWf : Hid (∀ k, Wf (PS r D k)) := Lib.hid (fun k => PS_wf (fun s hs => (hl0 s hs).2.2.2) k)
      obtain ⟨s0, hs0, _⟩ := HDL.out 0 (by omega)
      obtain ⟨s1, hs1, _⟩ := HDL.out 1 (by omega)
      obtain ⟨s2, hs2, _⟩ := HDL.out 2 (by omega)
      have hb1 : (PS r D 3).take (PS r D 2).length = PS r D 2 := PS_back1 hs2
      have hb2 : (PS r D 2).take (PS r D 1).length = PS r D 1 := PS_back1 hs1
      have hb3 : (PS r D 3).take (PS r D 1).length = PS r D 1 := PS_back2 hs1 hs2
      have hm1 := PS_mono (r := r) hs1
      have hm2 := PS_mono (r := r) hs2
      have hq := PS_len r D 3
      have hq3 := HCnt.out 3 (by omega)
      obtain ⟨p1, hp1⟩ : ∃ p, (PS r D 1).length = p := ⟨_, rfl⟩
      obtain ⟨p2, hp2⟩ : ∃ p, (PS r D 2).length = p := ⟨_, rfl⟩
      obtain ⟨p3, hp3⟩ : ∃ p, (PS r D 3).length = p := ⟨_, rfl⟩
      simp only [Nat.reduceAdd] at hm1 hm2
      rw [hp1, hp2] at hm1
      rw [hp2, hp3] at hm2
      rw [hp3] at hq
      have hen := ents_len (PS r D 1)
      rw [hp1] at hen
      obtain ⟨gm2, cm, ev, _⟩ := own_some hS.holds.2 (by omega)
      subst ev
      have HB1 : Hid (decide ((0 : Int) ≤ (p2 : Int) ∧ (p2 : Int) ≤ ((PS r D 3).length : Int)) = true ∧ (if (0 : Int) ≤ (p2 : Int) ∧ (p2 : Int) ≤ ((PS r D 3).length : Int) then (PS r D 3).take (p2 : Int).toNat else PS r D 3) = PS r D 2) := Lib.hid ⟨decide_eq_true (by omega), by rw [if_pos (by omega), ← hb1, hp2]; rfl⟩
      have HB2 : Hid (decide ((0 : Int) ≤ (p1 : Int) ∧ (p1 : Int) ≤ ((PS r D 2).length : Int)) = true ∧ (if (0 : Int) ≤ (p1 : Int) ∧ (p1 : Int) ≤ ((PS r D 2).length : Int) then (PS r D 2).take (p1 : Int).toNat else PS r D 2) = PS r D 1) := Lib.hid ⟨decide_eq_true (by omega), by rw [if_pos (by omega), ← hb2, hp1]; rfl⟩
      have HB3 : Hid (decide ((0 : Int) ≤ (p1 : Int) ∧ (p1 : Int) ≤ ((PS r D 3).length : Int)) = true ∧ (if (0 : Int) ≤ (p1 : Int) ∧ (p1 : Int) ≤ ((PS r D 3).length : Int) then (PS r D 3).take (p1 : Int).toNat else PS r D 3) = PS r D 1) := Lib.hid ⟨decide_eq_true (by omega), by rw [if_pos (by omega), ← hb3, hp1]; rfl⟩
      have HP1 := Lib.hid hp1
      have HP2 := Lib.hid hp2
      have HL1 : Hid ((PS r D 1).length ≤ 60000) := Lib.hid (by omega)
      have HL2 : Hid ((PS r D 2).length ≤ 60000) := Lib.hid (by omega)
      have HL3 : Hid ((PS r D 3).length ≤ 60000) := Lib.hid (by omega)
      have HEN : Hid ((ents (PS r D 1)).length ≤ 60000) := Lib.hid (by omega)
      have HS := Lib.hid hS
      have HRow : Hid (∀ W, RM gl cs r D 3 (.slice (some ⟨gm2, 0, none⟩) 3 cm) W → W.cell? ⟨gm2, 1, none⟩ = some (.int .i64 p1) ∧ W.cell? ⟨gm2, 2, none⟩ = some (.int .i64 p2)) := Lib.hid (fun W h => by
        have h1 := (h.2.cellAt 1 (by omega)).trans (marksL_at r D (k := 3) (j := 1) (by omega))
        have h2 := (h.2.cellAt 2 (by omega)).trans (marksL_at r D (k := 3) (j := 2) (by omega))
        rw [hp1] at h1
        rw [hp2] at h2
        exact ⟨h1, h2⟩)
      obtain ⟨e1, e2⟩ := HRow.out _ hS.holds
      clear hS hmw hk hlt hl0 hs0 hs1 hs2 hb1 hb2 hb3 hm1 hm2 hq hq3 hp1 hp2 hp3 hen H4
      have HZ1 : Hid (decide ((0 : Int) ≤ 0 ∧ (0 : Int) ≤ ((PS r D 1).length : Int)) = true ∧ (if (0 : Int) ≤ 0 ∧ (0 : Int) ≤ ((PS r D 1).length : Int) then (PS r D 1).take (0 : Int).toNat else PS r D 1) = []) := Lib.hid ⟨decide_eq_true (by omega), by rw [if_pos (by omega)]; rfl⟩
      have HW0 : Hid (Wf []) := Lib.hid (fun _ h => by simp at h)
      have HL0 : Hid (([] : List (Int × Int)).length ≤ 60000) := Lib.hid (by simp)
      have HZ2 : Hid (decide ((0 : Int) ≤ 1 ∧ (1 : Int) ≤ (([] : List (Int × Int)).length : Int)) = false) := Lib.hid (decide_eq_false (by simp))
      have HLT : Hid (((ents (PS r D 1)).take (100 : Int).toNat).length ≤ 60000) := Lib.hid (by have := HEN.out; rw [List.length_take]; omega)
      have hbne : (p1 != p1) = false := by simp
      have hbne' : ((p1 : Int) != (p1 : Int)) = false := by simp
      go_wp2_with (first
        | (go_at_call 38; (with_reducible refine (SZ.backx HS.out (HWf.out 3) HL3.out p2).mono ?_); rw [HB1.out.1, HB1.out.2]; rintro e w11 ⟨rfl, h⟩; obtain ⟨e3, e4⟩ := HRow.out _ h.holds; have H11 := Lib.hid h; clear h)
        | (go_at_call 38; (with_reducible refine (SZ.backx H11.out (HWf.out 2) HL2.out p1).mono ?_); rw [HB2.out.1, HB2.out.2]; rintro e w12 ⟨rfl, h⟩; obtain ⟨e5, e6⟩ := HRow.out _ h.holds; have H12 := Lib.hid h; clear h)
        | (go_at_call 38; (with_reducible refine (SZ.backx H12.out.swap (HWf.out 3) HL3.out p1).mono ?_); rw [HB3.out.1, HB3.out.2]; rintro e w13 ⟨rfl, h⟩; have H13 := Lib.hid h.swap; clear h)
        | (go_at_call 46; (with_reducible refine (SZ.allx H13.out HL1.out 100 (by omega)).mono ?_); rintro e w14 ⟨v1, rfl, h1, h, _⟩; have HR1 : Hid (w14.ownsRow 0 81 2 v1 ((ents (PS r D 1)).take (100 : Int).toNat).length (entL ((ents (PS r D 1)).take (100 : Int).toNat))) := Lib.hid h1; have H14 := Lib.hid h; clear h h1)
        | (go_at_call 46; (with_reducible refine (SZ.allx H14.out.swap HL1.out 100 (by omega)).mono ?_); rintro e w15 ⟨v2, rfl, h1, h, k⟩; have HR2 : Hid (w15.ownsRow 0 81 2 v2 ((ents (PS r D 1)).take (100 : Int).toNat).length (entL ((ents (PS r D 1)).take (100 : Int).toNat))) := Lib.hid h1; have HR3 := Lib.hid (k.own HR1.out (fun _ _ h => h)); have H15 := Lib.hid h.swap; clear h h1 k)
        | (go_at_call 45; (with_reducible refine (same_calls (l := (ents (PS r D 1)).take (100 : Int).toNat) HR3.out HR2.out HLT.out).mono ?_); rintro e w16 ⟨rfl, k⟩; have H16 := Lib.hid (H15.out.keep k); clear k)
        | (go_at_call 42; (with_reducible refine (SZ.markx H16.out).mono ?_); rw [HP1.out]; rintro e w17 ⟨rfl, rfl⟩)
        | (go_at_call 42; (with_reducible refine (SZ.markx H16.out.swap).mono ?_); rw [HP1.out]; rintro e w18 ⟨rfl, rfl⟩)
        | (go_at_call 38; (with_reducible refine (SZ.backx H16.out (HWf.out 1) HL1.out 0).mono ?_); rw [HZ1.out.1, HZ1.out.2]; rintro e w19 ⟨rfl, h⟩; have H19 := Lib.hid h; clear h)
        | (go_at_call 43; (with_reducible refine (SZ.lenx H19.out).mono ?_); rintro e w20 ⟨rfl, rfl⟩)
        | (go_at_call 42; (with_reducible refine (SZ.markx H19.out).mono ?_); rintro e w21 ⟨rfl, rfl⟩)
        | (go_at_call 46; (with_reducible refine (SZ.allx H19.out (by simp) 9 (by omega)).mono ?_); rintro e w22 ⟨v3, rfl, h1, h, _⟩; obtain ⟨A3, c3, rfl⟩ := own_form h1; have H22 := Lib.hid h; clear h h1)
        | (go_at_call 38; (with_reducible refine (SZ.backx H22.out HW0.out HL0.out 1).mono ?_); rw [HZ2.out]; rintro e w23 ⟨rfl, h⟩; have H23 := Lib.hid h.kept; clear h))
      go_ret
      exact ⟨rfl, H23.out⟩
end Go.Proofs.Ytlpmgbimffmmkaa
