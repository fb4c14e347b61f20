/- WsetBack: the walk of the law. -/
import Derived.Test.YtlpmgbimffmmkaaWsY
import Derived.Test.YtlpmgbimffmmkaaWsFm
namespace Go.Proofs.Ytlpmgbimffmmkaa
open Go.RowKit Go.Maps

theorem putsS_next {r : Int} {ps l : List (Int × Int)} {k : Nat} {e : Int × Int} (h : l[k]? = some e) : putsS r ps (l.take (k + 1)) = putS r (putsS r ps (l.take k)) e := by
  obtain ⟨hk, rfl⟩ := List.getElem?_eq_some_iff.1 h
  rw [List.take_succ_eq_append_getElem hk, putsS_snoc]
def WfE (l : List (Int × Int)) : Prop := ∀ e ∈ l, I64 e.1 ∧ 0 ≤ e.2 ∧ e.2 ≤ 18446744073709551615
theorem WfE.at {l : List (Int × Int)} (h : WfE l) {k : Nat} {e : Int × Int} (he : l[k]? = some e) : I64 e.1 ∧ 0 ≤ e.2 ∧ e.2 ≤ 18446744073709551615 := h e (List.mem_of_getElem? he)
theorem Wf.putsS {r : Int} : ∀ {l ps : List (Int × Int)}, Wf ps → WfE l → Wf (Go.Proofs.Ytlpmgbimffmmkaa.putsS r ps l)
  | [], _, h, _ => h
  | p :: l, _, h, hl => Wf.putsS (l := l) (Wf.putS h (hl p (by simp)).1) (fun e he => hl e (by simp [he]))
/-- The head of a loop that puts all of a row. -/
def PutRel (G : Nat → Prop) (R : World → Prop) (w0 : World) (b : Nat) (r : Int) (PS l : List (Int × Int)) (n0 : Nat) (i : Value) (wr : World) : Prop :=
  ∃ (W : World) (k : Nat), W = wr ∧ i = .int .i64 k ∧ k ≤ l.length ∧ SX G R w0 W b r (putsS r PS (l.take k)) (n0 + k)

def GetRel (G : Nat → Prop) (R : World → Prop) (w0 : World) (b : Nat) (r : Int) (ps : List (Int × Int)) (m n0 : Nat) (i : Value) (wr : World) : Prop :=
  ∃ (W : World) (k : Nat), W = wr ∧ i = .int .i64 k ∧ k ≤ m ∧ SX G R w0 W b r ps n0
def isE (x v : Int) (t : Int × Int) : Bool := t.1 == x && t.2 == v
/-- The head of the loop that looks whether an entry is there. -/
def InRel (es : List (Int × Int)) (x v : Int) (W5 : World) (q i : Value) (wr : World) : Prop :=
  ∃ (W : World) (j : Nat), W = wr ∧ i = .int .i64 j ∧ j ≤ es.length ∧ q = .bool ((es.take j).any (isE x v)) ∧ Kept (fun _ => False) W5 W
theorem any_next {es : List (Int × Int)} {j : Nat} {t : Int × Int} (x v : Int) (h : es[j]? = some t) : (es.take (j + 1)).any (isE x v) = ((es.take j).any (isE x v) || isE x v t) := by
  obtain ⟨hk, rfl⟩ := List.getElem?_eq_some_iff.1 h
  rw [List.take_succ_eq_append_getElem hk, List.any_append]
  simp
theorem any_look (ps : List (Int × Int)) (x : Int) : (ents ps).any (isE x ((look (ents ps) x).getD 0)) = (look (ents ps) x).isSome := by
  cases hl : look (ents ps) x with
  | none =>
    rw [Option.isSome_none, List.any_eq_false]
    intro t ht
    obtain ⟨i, hi, rfl⟩ := List.getElem_of_mem ht
    have := ents_look ps (List.getElem?_eq_getElem hi)
    unfold isE
    by_cases he : (ents ps)[i].1 = x
    · rw [he, hl] at this; cases this
    · simp [he]
  | some v =>
    obtain ⟨i, hi⟩ := idx_of_look hl
    obtain ⟨v', h1, h2⟩ := idx_some hi
    rw [hl] at h2
    cases h2
    rw [Option.isSome_some, List.any_eq_true]
    exact ⟨(x, v), List.mem_of_getElem? h1, by simp [isE]⟩

set_option maxRecDepth 100000 in
set_option maxHeartbeats 1000000 in
theorem back_law (room : Int) (A : Option Addr) (n c : Nat) (la : List (Int × Int)) (B : Option Addr) (m d : Nat) (lb : List (Int × Int)) (w : World) (_h0 : Int64 room)
    (ha : la.length = n) (_hma : n ≤ maxLen) (hA : EntsAt w A la) (hwa : WfE la) (hb : lb.length = m) (_hmb : m ≤ maxLen) (hB : EntsAt w B lb) (hwb : WfE lb) :
    Calls Try.prog 9 #[.int .i64 room, .slice A n c, .slice B m d] w fun e w' => e = .returned (.bool true) ∧ Kept (fun _ => False) w w' := by
  by_cases h40 : 40 < n ∨ 40 < m
  · have hor : (decide ((40 : Int) < n) || decide ((40 : Int) < m)) = true := by simp; omega
    obtain ⟨hor1, hor2⟩ | ⟨hor1, hor2⟩ : (decide ((40 : Int) < n) = true ∧ True) ∨ (decide ((40 : Int) < n) = false ∧ decide ((40 : Int) < m) = true) := by
      by_cases h : 40 < n
      · exact .inl ⟨decide_eq_true (by omega), trivial⟩
      · exact .inr ⟨decide_eq_false (by omega), decide_eq_true (by omega)⟩
    all_goals
      clear hA hwa hB hwb ha hb h40 hor
      go_enter Try.func9, Try.ntmps9
      go_wp2_with (go_at_call 34; (with_reducible refine (alive8_calls _).mono ?_); rintro e w1 ⟨rfl, hk1⟩; have HK1 := Lib.hid hk1; clear hk1)
      go_ret
      exact ⟨rfl, HK1.out⟩
  have hn40 : n ≤ 40 := by omega
  have hm40 : m ≤ 40 := by omega
  obtain ⟨r, hr, er⟩ := andB_bound room 63 (by decide)
  have er : bits BinOp.and IntKind.i64 room 63 = (r : Int) := er
  have HLA := Lib.hid ha
  have HLB := Lib.hid hb
  have HA := Lib.hid hA
  have HB := Lib.hid hB
  have HWA := Lib.hid hwa
  have HWB := Lib.hid hwb
  have hd1 : decide ((40 : Int) < n) = false := decide_eq_false (by omega)
  have hd2 : decide ((40 : Int) < m) = false := decide_eq_false (by omega)
  clear hA hB hwa hwb h40 ha hb
  go_enter Try.func9, Try.ntmps9
  go_wp2_with (first
    | (go_at_call 34; (with_reducible refine (alive8_calls _).mono ?_); rintro e w1 ⟨rfl, hk1⟩; have HK1 := Lib.hid hk1; clear hk1)
    | (go_at_call 35; (refine (SG.new (w0 := w) HK1.out _).mono ?_); rintro e w2 ⟨b, rfl, h2⟩; rw [roomOf_in (by omega) (by omega)] at h2; have H2 := Lib.hid (SX.of h2); clear h2))
  go_loopw [39] (fun i wr => PutRel (fun _ => False) (fun _ => True) w b r [] la 0 i wr) (fun i _ => n - (intOf i).toNat)
  case atStart => exact ⟨_, 0, rfl, rfl, Nat.zero_le _, by simpa [putsS] using H2.out⟩
  case round =>
    obtain ⟨Wa, k, rfl, rfl, hk, hS⟩ := hrel
    rw [HLA.out] at hk
    by_cases hlt : k < n
    · obtain ⟨⟨x, y⟩, he⟩ : ∃ e, la[k]? = some e := ⟨_, List.getElem?_eq_getElem (by rw [HLA.out]; exact hlt)⟩
      obtain ⟨gb, go, eA, hgb, hc⟩ := (HA.out.kept hS.kept) (by rw [HLA.out]; omega)
      subst eA
      obtain ⟨c0, c1⟩ := hc k (x, y) he
      simp only at c0 c1
      have hpl := putsS_len r (la.take k) []
      rw [List.length_take, HLA.out] at hpl
      have hps0 : ([] : List (Int × Int)).length ≤ 120 := (by simp)
      have HI := Lib.hid (HWA.out.at he).1
      have HLen : Hid ((putsS r [] (la.take k)).length ≤ 60000) := Lib.hid (by omega)
      have HNx := Lib.hid (putsS_next (r := r) (ps := []) he)
      have HS := Lib.hid hS
      clear hS he hc hpl hps0
      go_wp2_with (go_at_call 40; (refine (SX.put (HS.out.keep ((Kept.refl _ _).alloc _)) x y HI.out HLen.out (by omega)).mono ?_); rintro e w3 ⟨rfl, h3⟩; rw [← HNx.out] at h3; have H3 := Lib.hid h3; clear h3)
      first | exact ⟨⟨_, k + 1, rfl, by simp, by rw [HLA.out]; omega, H3.out⟩, by simp [intOf]; omega⟩ | (go_roundw; (case rel => exact ⟨_, k + 1, rfl, by simp, by rw [HLA.out]; omega, H3.out⟩); (case measure => simp [intOf]; omega))
    · obtain rfl : n = k := by omega
      rw [List.take_of_length_le (by rw [HLA.out]; exact Nat.le_refl _)] at hS
      have hw0 : Wf (putsS r [] la) := Wf.putsS (fun _ h => by simp at h) HWA.out
      have hpl := putsS_len r la []
      simp only [List.length_nil, HLA.out] at hpl
      generalize hPA : putsS r [] la = PA at *
      obtain ⟨p, hp⟩ : ∃ p, PA.length = p := ⟨_, rfl⟩
      have HPL := Lib.hid hp
      have HWP := Lib.hid hw0
      have hel := ents_len PA
      have hp40 : p ≤ 40 := by omega
      have HLen : Hid (PA.length ≤ 60000) := Lib.hid (by omega)
      have HP120 : Hid (PA.length ≤ 120) := Lib.hid (by omega)
      have HT : Hid ((ents PA).take (100 : Int).toNat = ents PA) := Lib.hid (List.take_of_length_le (by show _ ≤ 100; omega))
      have HS := Lib.hid hS
      clear hS hw0 hpl hPA hp hel hlt hk H2
      go_wp2_with (first
        | (go_at_call 42; (refine (mark_calls HS.out.set).mono ?_); rw [HPL.out]; rintro e w4 ⟨rfl, rfl⟩)
        | (go_at_call 46; (refine (SX.all HS.out HLen.out 100 (by omega)).mono ?_); rw [HT.out]; rintro e w5 ⟨va, rfl, h5⟩; obtain ⟨VA, VC, rfl⟩ := own_form h5.holds.2; have H5 := Lib.hid h5; clear h5))
      go_loopw [56] (fun i wr => PutRel (fun x => False ∨ (Value.slice VA (ents PA).length VC).ownBlock = some x) (fun W => True ∧ RowE (.slice VA (ents PA).length VC) (ents PA) W) w b r PA lb (0 + n) i wr) (fun i _ => m - (intOf i).toNat)
      case atStart => exact ⟨_, 0, rfl, rfl, Nat.zero_le _, by simpa [putsS] using H5.out⟩
      case round =>
        obtain ⟨Wb, k, rfl, rfl, hk, hS⟩ := hrel
        rw [HLB.out] at hk
        by_cases hlt : k < m
        · obtain ⟨⟨x, y⟩, he⟩ : ∃ e, lb[k]? = some e := ⟨_, List.getElem?_eq_getElem (by rw [HLB.out]; exact hlt)⟩
          obtain ⟨gb, go, eA, hgb, hc⟩ := (HB.out.kept hS.kept) (by rw [HLB.out]; omega)
          subst eA
          obtain ⟨c0, c1⟩ := hc k (x, y) he
          simp only at c0 c1
          have hpl := putsS_len r (lb.take k) PA
          rw [List.length_take, HLB.out] at hpl
          have hps0 : (PA : List (Int × Int)).length ≤ 120 := HP120.out
          have HI := Lib.hid (HWB.out.at he).1
          have HLen : Hid ((putsS r PA (lb.take k)).length ≤ 60000) := Lib.hid (by omega)
          have HNx := Lib.hid (putsS_next (r := r) (ps := PA) he)
          have HS := Lib.hid hS
          clear hS he hc hpl hps0
          go_wp2_with (go_at_call 40; (refine (SX.put (HS.out.keep ((Kept.refl _ _).alloc _)) x y HI.out HLen.out (by omega)).mono ?_); rintro e w3 ⟨rfl, h3⟩; rw [← HNx.out] at h3; have H3 := Lib.hid h3; clear h3)
          first | exact ⟨⟨_, k + 1, rfl, by simp, by rw [HLB.out]; omega, H3.out⟩, by simp [intOf]; omega⟩ | (go_roundw; (case rel => exact ⟨_, k + 1, rfl, by simp, by rw [HLB.out]; omega, H3.out⟩); (case measure => simp [intOf]; omega))
        · obtain rfl : m = k := by omega
          rw [List.take_of_length_le (by rw [HLB.out]; exact Nat.le_refl _)] at hS
          have hpl := putsS_len r lb PA
          rw [HPL.out, HLB.out] at hpl
          have hwB : Wf (putsS r PA lb) := Wf.putsS HWP.out HWB.out
          have htk := putsS_take r lb PA
          rw [HPL.out] at htk
          have HPB := Lib.hid (Eq.refl (putsS r PA lb))
          obtain ⟨q, hq⟩ : ∃ q, (putsS r PA lb).length = q := ⟨_, rfl⟩
          have hel := ents_len (putsS r PA lb)
          have hq80 : q ≤ 80 := by omega
          have hpq : p ≤ q := by omega
          have HQL := Lib.hid hq
          have HWQ := Lib.hid hwB
          have HTK := Lib.hid htk
          have HLenQ : Hid ((putsS r PA lb).length ≤ 60000) := Lib.hid (by omega)
          have HTQ : Hid ((ents (putsS r PA lb)).take (100 : Int).toNat = ents (putsS r PA lb)) := Lib.hid (List.take_of_length_le (by show _ ≤ 100; omega))
          have HB1 : Hid (decide ((0 : Int) ≤ (p : Int) ∧ (p : Int) ≤ ((putsS r PA lb).length : Int)) = true) := Lib.hid (decide_eq_true (by omega))
          have HB2 : Hid ((if (0 : Int) ≤ (p : Int) ∧ (p : Int) ≤ ((putsS r PA lb).length : Int) then (putsS r PA lb).take (p : Int).toNat else putsS r PA lb) = PA) := Lib.hid (by rw [if_pos (by omega)]; exact htk)
          replace HS := Lib.hid hS
          clear hS hwB hpl htk hq hel hlt hk H5
          go_wp2_with (first
            | (go_at_call 46; (refine (SX.all HS.out HLenQ.out 100 (by omega)).mono ?_); rw [HTQ.out]; rintro e w6 ⟨vb, rfl, h6⟩; have H6 := Lib.hid h6; clear h6)
            | (go_at_call 38; (refine (SX.back H6.out HWQ.out HLenQ.out p).mono ?_); rw [HB1.out, HB2.out]; rintro e w7 ⟨rfl, h7⟩; have H7 := Lib.hid h7; clear h7)
            | (go_at_call 42; (refine (mark_calls H7.out.set).mono ?_); rw [HPL.out]; rintro e w8 ⟨rfl, rfl⟩)
            | (go_at_call 46; (refine (SX.all H7.out HLen.out 100 (by omega)).mono ?_); rw [HT.out]; rintro e w9 ⟨vc, rfl, h9⟩; have H9 := Lib.hid h9; clear h9)
            | (go_at_call 45; (refine (same_calls (l := ents PA) H9.out.holds.2 H9.out.holds.1.1.2 (by have := ents_len PA; have := HLen.out; omega)).mono ?_); rintro e w10 ⟨rfl, h10⟩; have H10 := Lib.hid ((SX.drop H7.out H9.out).keep h10); clear h10))
          have HES : Hid ((ents PA).length ≤ 60000) := Lib.hid (by have := ents_len PA; have := HLen.out; omega)
          go_loopw [88] (fun i wr => GetRel (fun x => (False ∨ (Value.slice VA (ents PA).length VC).ownBlock = some x) ∨ vb.ownBlock = some x) (fun W => (True ∧ RowE (.slice VA (ents PA).length VC) (ents PA) W) ∧ RowE vb (ents (putsS r PA lb)) W) w b r PA m (0 + n + m) i wr) (fun i _ => m - (intOf i).toNat)
          case atStart => exact ⟨_, 0, rfl, rfl, Nat.zero_le _, H10.out⟩
          case round =>
            obtain ⟨Wc, k, rfl, rfl, hk, hS⟩ := hrel
            by_cases hlt : k < m
            · obtain ⟨⟨x, y⟩, he⟩ : ∃ e, lb[k]? = some e := ⟨_, List.getElem?_eq_getElem (by rw [HLB.out]; exact hlt)⟩
              obtain ⟨gb, go, eA, hgb, hc⟩ := (HB.out.kept hS.kept) (by rw [HLB.out]; omega)
              subst eA
              obtain ⟨c0, c1⟩ := hc k (x, y) he
              simp only at c0 c1
              replace HI := Lib.hid (HWB.out.at he).1
              obtain ⟨v, hv⟩ : ∃ v, (look (ents PA) x).getD 0 = v := ⟨_, rfl⟩
              obtain ⟨ok, hok⟩ : ∃ ok, (look (ents PA) x).isSome = ok := ⟨_, rfl⟩
              have HGV : Hid (getV PA x = .tuple #[.int .u64 v, .bool ok]) := Lib.hid (by unfold getV; rw [hv, hok])
              have HAny : Hid ((ents PA).any (isE x v) = ok) := Lib.hid (by rw [← hok, ← hv]; exact any_look PA x)
              replace HS := Lib.hid hS
              clear hS he hc hv hok H10
              go_wp2_with (go_at_call 47; (refine (get_calls (HS.out.keep ((Kept.refl _ _).alloc _)).set x HI.out).mono ?_); rw [HGV.out]; rintro e w3 ⟨rfl, rfl⟩)
              have HS5 := Lib.hid (HS.out.keep ((Kept.refl _ _).alloc (.cells #[.int .i64 x, .int .u64 y] 80)))
              have HBk : Hid (Blk (Wc.alloc (.cells #[.int .i64 x, .int .u64 y] 80)) Wc.heap.size 80 #[.int .i64 x, .int .u64 y]) := Lib.hid (Blk.new _ _ _)
              generalize Wc.alloc (.cells #[.int .i64 x, .int .u64 y] 80) = W5 at *
              generalize Wc.heap.size = ge at *
              clear c0 c1 HS
              have hes := HES.out
              go_loopw [19, 101] (fun q i wr => InRel (ents PA) x v W5 q i wr) (fun _ i _ => (ents PA).length - (intOf i).toNat)
              case atStart => exact ⟨_, 0, rfl, rfl, Nat.zero_le _, rfl, Kept.refl _ _⟩
              case round =>
                obtain ⟨Wi, j, rfl, rfl, hj, rfl, hKi⟩ := hrel
                have HKi := Lib.hid hKi
                by_cases hjl : j < (ents PA).length
                · obtain ⟨⟨x', y'⟩, hje⟩ : ∃ t, (ents PA)[j]? = some t := ⟨_, List.getElem?_eq_getElem hjl⟩
                  have hrow := (HS5.out.keep hKi).holds.1.2
                  obtain ⟨gv, _, ea, _⟩ := own_some hrow (by omega)
                  injection ea with ea _ ea3
                  subst ea ea3
                  obtain ⟨d0, d1⟩ := ent_cells hrow hje hjl
                  simp only at d0 d1
                  have g0 : (Wi.alloc (.cells #[.int .i64 x', .int .u64 y'] 81)).cell? ⟨ge, 0, none⟩ = some (.int .i64 x) := ((hKi.blk HBk.out (fun h => h)).alloc _).cell 0
                  have HNx := Lib.hid (any_next x v hje)
                  have HJ := Lib.hid hjl
                  obtain ⟨q, hq⟩ : ∃ q, ((ents PA).take j).any (isE x v) = q := ⟨_, rfl⟩
                  rw [hq] at HNx ⊢
                  clear hKi hje hq hj hrow
                  cases q with
                  | true =>
                    go_wp2_with fail
                    first | exact ⟨⟨_, j + 1, rfl, by simp, HJ.out, by rw [HNx.out]; rfl, HKi.out.alloc _⟩, by simp [intOf]; omega⟩ | (go_roundw; (case rel => exact ⟨_, j + 1, rfl, by simp, HJ.out, by rw [HNx.out]; rfl, HKi.out.alloc _⟩); (case measure => simp [intOf]; omega))
                  | false =>
                    by_cases hx : x' = x
                    · by_cases hy : y' = v
                      · have hx1 : (x' == x) = true := by simp [hx]
                        have hy1 : (y' == v) = true := by simp [hy]
                        have HV : Hid (isE x v (x', y') = true) := Lib.hid (by unfold isE; rw [hx1, hy1]; rfl)
                        clear hx hy
                        go_wp2_with fail
                        first | exact ⟨⟨_, j + 1, rfl, by simp, HJ.out, by rw [HNx.out, HV.out]; rfl, HKi.out.alloc _⟩, by simp [intOf]; omega⟩ | (go_roundw; (case rel => exact ⟨_, j + 1, rfl, by simp, HJ.out, by rw [HNx.out, HV.out]; rfl, HKi.out.alloc _⟩); (case measure => simp [intOf]; omega))
                      · have hx1 : (x' == x) = true := by simp [hx]
                        have hy1 : (y' == v) = false := by simp [hy]
                        have HV : Hid (isE x v (x', y') = false) := Lib.hid (by unfold isE; rw [hx1, hy1]; rfl)
                        clear hx hy
                        go_wp2_with fail
                        first | exact ⟨⟨_, j + 1, rfl, by simp, HJ.out, by rw [HNx.out, HV.out]; rfl, HKi.out.alloc _⟩, by simp [intOf]; omega⟩ | (go_roundw; (case rel => exact ⟨_, j + 1, rfl, by simp, HJ.out, by rw [HNx.out, HV.out]; rfl, HKi.out.alloc _⟩); (case measure => simp [intOf]; omega))
                    · have hx1 : (x' == x) = false := by simp [hx]
                      have HV : Hid (isE x v (x', y') = false) := Lib.hid (by unfold isE; rw [hx1]; rfl)
                      clear hx
                      go_wp2_with fail
                      first | exact ⟨⟨_, j + 1, rfl, by simp, HJ.out, by rw [HNx.out, HV.out]; rfl, HKi.out.alloc _⟩, by simp [intOf]; omega⟩ | (go_roundw; (case rel => exact ⟨_, j + 1, rfl, by simp, HJ.out, by rw [HNx.out, HV.out]; rfl, HKi.out.alloc _⟩); (case measure => simp [intOf]; omega))
                · rw [List.take_of_length_le (by omega), HAny.out]
                  have hok1 : (ok == ok) = true := by simp
                  clear hKi hj
                  go_wp2_with fail
                  exact ⟨⟨_, k + 1, rfl, by simp, by omega, HS5.out.keep HKi.out⟩, by simp [intOf]; omega⟩
            · obtain rfl : m = k := by omega
              replace H10 := Lib.hid hS
              clear hS hlt hk
              go_wp2_with fail
              go_loopw [126] (fun i wr => PutRel (fun x => (False ∨ (Value.slice VA (ents PA).length VC).ownBlock = some x) ∨ vb.ownBlock = some x) (fun W => (True ∧ RowE (.slice VA (ents PA).length VC) (ents PA) W) ∧ RowE vb (ents (putsS r PA lb)) W) w b r PA lb (0 + n + m) i wr) (fun i _ => m - (intOf i).toNat)
              case atStart => exact ⟨_, 0, rfl, rfl, Nat.zero_le _, by simpa [putsS] using H10.out⟩
              case round =>
                obtain ⟨Wd, k, rfl, rfl, hk, hS⟩ := hrel
                rw [HLB.out] at hk
                by_cases hlt : k < m
                · obtain ⟨⟨x, y⟩, he⟩ : ∃ e, lb[k]? = some e := ⟨_, List.getElem?_eq_getElem (by rw [HLB.out]; exact hlt)⟩
                  obtain ⟨gb, go, eA, hgb, hc⟩ := (HB.out.kept hS.kept) (by rw [HLB.out]; omega)
                  subst eA
                  obtain ⟨c0, c1⟩ := hc k (x, y) he
                  simp only at c0 c1
                  have hpl := putsS_len r (lb.take k) PA
                  rw [List.length_take, HLB.out] at hpl
                  have hps0 : (PA : List (Int × Int)).length ≤ 120 := HP120.out
                  have HI := Lib.hid (HWB.out.at he).1
                  have HLen2 : Hid ((putsS r PA (lb.take k)).length ≤ 60000) := Lib.hid (by omega)
                  have HNx := Lib.hid (putsS_next (r := r) (ps := PA) he)
                  have HS := Lib.hid hS
                  clear hS he hc hpl hps0
                  go_wp2_with (go_at_call 40; (refine (SX.put (HS.out.keep ((Kept.refl _ _).alloc _)) x y HI.out HLen2.out (by omega)).mono ?_); rintro e w3 ⟨rfl, h3⟩; rw [← HNx.out] at h3; have H3 := Lib.hid h3; clear h3)
                  first | exact ⟨⟨_, k + 1, rfl, by simp, by rw [HLB.out]; omega, H3.out⟩, by simp [intOf]; omega⟩ | (go_roundw; (case rel => exact ⟨_, k + 1, rfl, by simp, by rw [HLB.out]; omega, H3.out⟩); (case measure => simp [intOf]; omega))
                · obtain rfl : m = k := by omega
                  rw [List.take_of_length_le (by rw [HLB.out]; exact Nat.le_refl _)] at hS
                  replace HS := Lib.hid hS
                  clear hS hlt hk H10
                  have hel := HTQ.out
                  have HQ6 : Hid ((ents (putsS r PA lb)).length ≤ 60000) := Lib.hid (by have := ents_len (putsS r PA lb); have := HLenQ.out; omega)
                  clear hel
                  go_wp2_with (first
                    | (go_at_call 46; (refine (SX.all HS.out HLenQ.out 100 (by omega)).mono ?_); rw [HTQ.out]; rintro e w12 ⟨vd, rfl, h12⟩; have H12 := Lib.hid h12; clear h12)
                    | (go_at_call 45; (refine (same_calls (l := ents (putsS r PA lb)) H12.out.holds.2 H12.out.holds.1.2 HQ6.out).mono ?_); rintro e w13 ⟨rfl, h13⟩; have H13 := Lib.hid (H12.out.kept.trans h13); clear h13))
                  go_ret
                  exact ⟨rfl, H13.out⟩
end Go.Proofs.Ytlpmgbimffmmkaa
