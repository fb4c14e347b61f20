/- ViewPlays: the walk of the law. -/
import Derived.Test.YthjkodjpopcjaaaVwZa
namespace Go.Proofs.Ythjkodjpopcjaaa
open Go.RowKit
attribute [local go_sem ↓] loadMap_eq loadCfg_eq stMap_eq stRv_eq ldRv_eq stTape_eq

/-- The head of the loop over readings. -/
def POut (c : CfgD) (n m : Nat) (u seq : Int) (w0 : World) (B gx : Nat) (M : List (Nat × TypeId × Array Value)) (fr k i : Value) (wr : World) : Prop :=
  ∃ (W : World) (f ii : Nat) (v : VwD) (x : XvD), W = wr ∧ fr = .int .i64 f ∧ k = .int .i64 f ∧ i = .int .i64 ii ∧ ii ≤ n ∧ f ≤ m ∧ Rel9 v x u seq ∧ VX w0 W B c v ((gx, 34, rvA c u seq x.held x.stale) :: M)
/-- The head of the loop over steps. -/
def PIn (c : CfgD) (m f : Nat) (lv : List OutD) (v1 : VwD) (w0 : World) (B : Nat) (M : List (Nat × TypeId × Array Value)) (k : Value) (wr : World) : Prop :=
  ∃ (W : World) (kk : Nat), W = wr ∧ k = .int .i64 kk ∧ f ≤ kk ∧ kk ≤ m ∧ GoingB v1 ((lv.drop f).take (kk - f)) ∧ VX w0 W B c (tells v1 ((lv.drop f).take (kk - f))) M

set_option maxRecDepth 100000 in
set_option maxHeartbeats 4000000 in
theorem plays9_law (hal : ∀ w, Calls Try.prog 9 #[] w fun e w' => e = .returned (.bool true) ∧ Kept (fun _ => False) w w')
    (c : CfgD) (who seq : Int) (A : Option Addr) (n ca : Nat) (lq : List (Int × Int × Int)) (D : Option Addr) (m cd : Nat) (lv : List OutD) (w : World)
    (hq : lq.length = n) (_hn : n ≤ maxLen) (hA : SlAt w A 3 (lq.map rqCells)) (hwq : ∀ e ∈ lq, I64 e.1 ∧ I64 e.2.1 ∧ I64 e.2.2) (hv : lv.length = m) (hm : m ≤ maxLen) (hcd : m ≤ cd) (hD : SlAt w D 3 (lv.map OutD.cells)) :
    Calls Try.prog 3 #[cfgV c, .int .i64 who, .int .u64 seq, .slice A n ca, .slice D m cd] w (Good w) := by
  have HO' := Lib.hid hal
  clear hal
  by_cases hok : c.Ok
  · by_cases h20 : 20 < n ∨ 60 < m
    · obtain ⟨hor1, hor2⟩ | ⟨hor1, hor2⟩ : (decide ((20 : Int) < n) = true ∧ True) ∨ (decide ((20 : Int) < n) = false ∧ decide ((60 : Int) < m) = true) := by
        by_cases h : 20 < n
        · exact .inl ⟨decide_eq_true (by omega), trivial⟩
        · exact .inr ⟨decide_eq_false (by omega), decide_eq_true (by omega)⟩
      all_goals
        have HD := Lib.hid (decide_eq_true hok)
        have HB0 : Hid (Blk (w.alloc (.cells (cfgA c) 24)) w.heap.size 24 (cfgA c)) := Lib.hid (Blk.new _ _ _)
        have HK0 : Hid (Kept (fun _ => False) w (w.alloc (.cells (cfgA c) 24))) := Lib.hid ((Kept.refl _ _).alloc _)
        clear hok hA hD hwq hq hv h20
        unfold cfgV
        go_enter Try.func3, Try.ntmps3
        go_wp2_with (first
          | (go_at_call 9; ((refine (HO'.out _).mono ?_); rintro e w1 ⟨rfl, hk⟩; have HK1 := Lib.hid (HK0.out.trans hk); have HB1 := Lib.hid (hk.blk HB0.out (fun h => h)); have hl1 := loadCfg_blk HB1.out; clear hk))
          | (go_at_call 10; ((refine (right7 c _).mono ?_); rintro e w2 ⟨rfl, hk⟩; rw [HD.out]; have HK2 := Lib.hid (HK1.out.trans hk); clear hk hl1)))
        go_ret
        exact ⟨rfl, HK2.out⟩
    · have hn20 : decide ((20 : Int) < n) = false := decide_eq_false (by omega)
      have hm60 : decide ((60 : Int) < m) = false := decide_eq_false (by omega)
      have HD := Lib.hid (decide_eq_true hok)
      have HC := Lib.hid hok
      have HLQ := Lib.hid hq
      have HLV := Lib.hid hv
      have HA := Lib.hid hA
      have HDD := Lib.hid hD
      have HWQ := Lib.hid hwq
      have HB0 : Hid (Blk (w.alloc (.cells (cfgA c) 24)) w.heap.size 24 (cfgA c)) := Lib.hid (Blk.new _ _ _)
      have HK0 : Hid (Kept (fun _ => False) w (w.alloc (.cells (cfgA c) 24))) := Lib.hid ((Kept.refl _ _).alloc _)
      have HM := Lib.hid hm
      have HCD := Lib.hid hcd
      clear hok hA hD hwq hq hv hm hcd
      unfold cfgV
      go_enter Try.func3, Try.ntmps3
      go_wp2_with (first
        | (go_at_call 9; ((refine (HO'.out _).mono ?_); rintro e w1 ⟨rfl, hk⟩; have HK1 := Lib.hid (HK0.out.trans hk); have HB1 := Lib.hid (hk.blk HB0.out (fun h => h)); have hl1 := loadCfg_blk HB1.out; clear hk))
        | (go_at_call 10; ((refine (right7 c _).mono ?_); rintro e w2 ⟨rfl, hk⟩; rw [HD.out]; have HK2 := Lib.hid (HK1.out.trans hk); have HB2 := Lib.hid (hk.blk HB1.out (fun h => h)); have hl2 := loadCfg_blk HB2.out; clear hk hl1))
        | (go_at_call 11; ((refine (right9 c HC.out _ _ HK2.out HB2.out).mono ?_); rintro e w3 ⟨B, u, hu0, hu1, rfl, h3⟩; obtain ⟨w4, hst4, w5, hst5, h5⟩ := h3.two u seq (-1) false; have hlt3 := h3.kept.size; have HG := Lib.hid (show w.heap.size ≤ w3.heap.size + 1 ∧ w.heap.size < w3.heap.size + 1 by omega); have H5 := Lib.hid (h5.sub (M := [(w3.heap.size + 1, 34, rvA c u seq (-1) false), (w.heap.size, 24, cfgA c)]) (by simp)); clear h3 h5 hl2 hlt3)))
      go_loopw [14, 15, 51] (fun fr k i wr => POut c n m u seq w B (w3.heap.size + 1) [(w.heap.size, 24, cfgA c)] fr k i wr) (fun _ _ i _ => n - (intOf i).toNat)
      case atStart => exact ⟨_, 0, 0, _, ⟨-1, false⟩, rfl, rfl, rfl, rfl, Nat.zero_le _, Nat.zero_le _, rel_new, H5.out⟩
      case round =>
        obtain ⟨Wa, f, ii, v, x, rfl, rfl, rfl, rfl, hi, hf, hR, hS⟩ := hrel
        by_cases hlt : ii < n
        · obtain ⟨⟨qk, qa, qb⟩, he⟩ : ∃ e, lq[ii]? = some e := ⟨_, List.getElem?_eq_getElem (by rw [HLQ.out]; exact hlt)⟩
          obtain ⟨gq, go, eA, hgb, hc⟩ := (HA.out.kept hS.kept) (by rw [List.length_map, HLQ.out]; omega)
          subst eA
          have hcell := hc ii (rqCells (qk, qa, qb)) (by rw [List.getElem?_map, he]; rfl)
          have c0 : Wa.cell? ⟨gq, go + ii * 3, none⟩ = some (.int .i64 qk) := hcell 0 _ rfl
          have c1 := hcell 1 _ rfl
          have c2 := hcell 2 _ rfl
          have HIW := Lib.hid (HWQ.out _ (List.mem_of_getElem? he))
          have HS := Lib.hid (hS.more 38 #[.int .i64 qk, .int .i64 qa, .int .i64 qb])
          obtain ⟨v1, hv1⟩ : ∃ v1, VwD.req c v ⟨qk, qa, qb⟩ = v1 := ⟨_, rfl⟩
          have HV1 := Lib.hid hv1
          have HR := Lib.hid hR
          have hl3 := loadCfg_blk (HS.out.blks (w.heap.size, 24, cfgA c) (by simp)).1
          have HGX : Hid (w3.heap.size + 1 < Wa.heap.size) := Lib.hid hS.at.lt
          clear hS he hc hcell H5 hR hv1
          go_wp2_with (go_at_call 12; ((refine (HS.out.begin HC.out.bd ⟨qk, qa, qb⟩ HIW.out.2.1).mono ?_); rw [HV1.out]; rintro e w6 ⟨rfl, h⟩; have H6 := Lib.hid h; clear h hl3))
          clear c0 c1 c2
          go_loopw [15] (fun k wr => PIn c m f lv v1 w B [(Wa.heap.size, 38, #[.int .i64 qk, .int .i64 qa, .int .i64 qb]), (w3.heap.size + 1, 34, rvA c u seq x.held x.stale), (w.heap.size, 24, cfgA c)] k wr) (fun k _ => m - (intOf k).toNat)
          case atStart => exact ⟨_, f, rfl, rfl, Nat.le_refl _, hf, by rw [Nat.sub_self]; exact GoingB.nil _, by rw [Nat.sub_self]; exact H6.out⟩
          case round =>
            obtain ⟨Wb, k, rfl, rfl, hfk, hkm, hgo, hV⟩ := hrel
            have hagr := reads_agree HC.out.bd HR.out qk qa qb _ (by rw [← begQ_req, HV1.out]; exact hgo)
            rw [← begQ_req, HV1.out] at hagr
            have hlook := hagr.look
            have hblk := tells_blk HC.out.bd v HR.out.ne qk qa qb ((lv.drop f).take (k - f))
            rw [← begQ_req, HV1.out] at hblk
            have hsn : ∀ o, lv[k]? = some o → (tells v1 ((lv.drop f).take (k - f))).st = 0 → GoingB v1 ((lv.drop f).take (k + 1 - f)) ∧ tells v1 ((lv.drop f).take (k + 1 - f)) = (tells v1 ((lv.drop f).take (k - f))).tell o.val o.seq := fun o ho h0 => by
              rw [part_snoc hfk ho]
              exact ⟨hgo.snoc h0 o, tells_snoc _ _ _⟩
            obtain ⟨v2, hv2⟩ : ∃ v2, tells v1 ((lv.drop f).take (k - f)) = v2 := ⟨_, rfl⟩
            rw [hv2] at hV hlook hblk hsn
            obtain ⟨r, hr⟩ : ∃ r, doesR c ((lv.drop f).take (k - f)) u seq x t0 qk qa qb = r := ⟨_, rfl⟩
            rw [hr] at hlook
            obtain ⟨⟨xh, xs⟩, ⟨tp, ⟨ak, ap, aov, aos, anv, ans⟩, need⟩, val, st⟩ := r
            obtain ⟨hask, hst, hend⟩ := hlook
            dsimp only at hask hst hend
            have hok := ask_ok c v2
            rw [hask] at hok
            dsimp only at hok
            have HV := Lib.hid hV
            have HBK := Lib.hid hblk
            have HAK := Lib.hid hask
            have HST := Lib.hid hst
            have HRR := Lib.hid hr
            have HSN := Lib.hid hsn
            have HEND := Lib.hid hend
            have HFK := Lib.hid (And.intro hfk hkm)
            have HPL := Lib.hid (part_len lv (l := f) (k := k) hfk (by rw [HLV.out]; exact hkm))
            have HPM : Hid (k - f ≤ maxLen) := Lib.hid (by have := HM.out; omega)
            have hsl := run_outs_sl D m cd f k hfk (Nat.le_trans hkm HCD.out)
            have hqn := run_op_neq
            have hss : (st != st) = false := by simp
            have hvv : (val != val) = false := by simp
            clear hV hblk hask hst hr hsn hend hgo hagr hv2
            cases need with
            | true =>
              have HO : Hid (v2.st = 0) := Lib.hid (by simpa using hok)
              clear hok
              go_wp2_with (go_at_call 13; ((refine (VX.askTo HV.out HC.out.bd HBK.out HAK.out).mono ?_); rintro e w7 ⟨rfl, h⟩; have H7 := Lib.hid h; clear h))
              have h7 := H7.out.more 43 #[.int .i64 ak, .int .i64 ap, .int .u64 aov, .int .u64 aos, .int .u64 anv, .int .u64 ans]
              have hlt7 : ∀ x ∈ ((w7.heap.size, 43, #[.int .i64 ak, .int .i64 ap, .int .u64 aov, .int .u64 aos, .int .u64 anv, .int .u64 ans]) :: _ : List (Nat × TypeId × Array Value)), x.1 < w7.heap.size + 1 := fun x hx => by have := (h7.blks x hx).1.lt; simpa using this
              have HL7 := Lib.hid hlt7
              have HW7 : Hid (w.heap.size ≤ w7.heap.size) := Lib.hid H7.out.kept.size
              have hs7 : (w7.alloc (.cells #[.int .i64 ak, .int .i64 ap, .int .u64 aov, .int .u64 aos, .int .u64 anv, .int .u64 ans] 43)).heap.size = w7.heap.size + 1 := by simp
              have h7y := h7.more' 34 rv0 (w7.heap.size + 1) (by simp)
              have h7t := h7.more' 47 tp0 (w7.heap.size + 1) (by simp)
              have h7yt := h7y.more' 47 tp0 (w7.heap.size + 1 + 1) (by simp)
              have h7ty := h7t.more' 34 rv0 (w7.heap.size + 1 + 1) (by simp)
              have H8 := Lib.hid (h7.keep ((Kept.refl _ _).drew))
              have H8y := Lib.hid (h7y.keep ((Kept.refl _ _).drew))
              have H8t := Lib.hid (h7t.keep ((Kept.refl _ _).drew))
              have H8yt := Lib.hid (h7yt.keep ((Kept.refl _ _).drew))
              have H8ty := Lib.hid (h7ty.keep ((Kept.refl _ _).drew))
              have S0 := Lib.hid (H8.out.sv (gx := w3.heap.size + 1) (gr := Wa.heap.size) (who := u) (seq := seq) (x := x) (qk := qk) (qa := qa) (qb := qb) (by simp) (by simp))
              have Sy := H8y.out.sv (gx := w3.heap.size + 1) (gr := Wa.heap.size) (who := u) (seq := seq) (x := x) (qk := qk) (qa := qa) (qb := qb) (by simp) (by simp)
              have St := H8t.out.sv (gx := w3.heap.size + 1) (gr := Wa.heap.size) (who := u) (seq := seq) (x := x) (qk := qk) (qa := qa) (qb := qb) (by simp) (by simp)
              have Syt := H8yt.out.sv (gx := w3.heap.size + 1) (gr := Wa.heap.size) (who := u) (seq := seq) (x := x) (qk := qk) (qa := qa) (qb := qb) (by simp) (by simp)
              have Sty := H8ty.out.sv (gx := w3.heap.size + 1) (gr := Wa.heap.size) (who := u) (seq := seq) (x := x) (qk := qk) (qa := qa) (qb := qb) (by simp) (by simp)
              have HD8 := Lib.hid ((HDD.out.kept H8.out.kept).part (c := cd) HFK.out.1 (by rw [HLV.out]; exact HFK.out.2) (by rw [HLV.out]; exact HCD.out))
              have HD8y := (HDD.out.kept H8y.out.kept).part (c := cd) HFK.out.1 (by rw [HLV.out]; exact HFK.out.2) (by rw [HLV.out]; exact HCD.out)
              have HD8t := (HDD.out.kept H8t.out.kept).part (c := cd) HFK.out.1 (by rw [HLV.out]; exact HFK.out.2) (by rw [HLV.out]; exact HCD.out)
              have HD8yt := (HDD.out.kept H8yt.out.kept).part (c := cd) HFK.out.1 (by rw [HLV.out]; exact HFK.out.2) (by rw [HLV.out]; exact HCD.out)
              have HD8ty := (HDD.out.kept H8ty.out.kept).part (c := cd) HFK.out.1 (by rw [HLV.out]; exact HFK.out.2) (by rw [HLV.out]; exact HCD.out)
              unfold rv0 at Sy HD8y
              unfold tp0 at St HD8t
              unfold rv0 tp0 at Syt Sty HD8yt HD8ty
              replace Sy := Lib.hid Sy
              replace St := Lib.hid St
              replace Syt := Lib.hid Syt
              replace Sty := Lib.hid Sty
              replace HD8y := Lib.hid HD8y
              replace HD8t := Lib.hid HD8t
              replace HD8yt := Lib.hid HD8yt
              replace HD8ty := Lib.hid HD8ty
              clear h7 h7y h7t h7yt h7ty hlt7 hs7
              go_cut [20, 21, 22, 23] (fun s20 s21 s22 s23 wx => ∃ gy gt : Nat, s20 = .pointer (some ⟨gy, 0, none⟩) ∧ s21 = .pointer (some ⟨gt, 0, none⟩) ∧ s22 = .int .u64 val ∧ s23 = .int .i64 st ∧
                VX w wx B c v2 [(gt, 47, tpA (.slice (outA D cd f) (k - f) (cd - f)) ⟨tp, ⟨ak, ap, aov, aos, anv, ans⟩, true⟩), (gy, 34, rvA c u seq xh xs), (w7.heap.size, 43, #[.int .i64 ak, .int .i64 ap, .int .u64 aov, .int .u64 aos, .int .u64 anv, .int .u64 ans]), (Wa.heap.size, 38, #[.int .i64 qk, .int .i64 qa, .int .i64 qb]), (w3.heap.size + 1, 34, rvA c u seq x.held x.stale), (w.heap.size, 24, cfgA c)])
              case first =>
                go_region_held3 (fun w' => (ldRv ⟨w3.heap.size + 1, 0, none⟩).run Try.prog w' = .ok (.agg (rvA c u seq x.held x.stale)) w' ∧ w'.cell? ⟨Wa.heap.size, 0, none⟩ = some (.int .i64 qk) ∧ w'.cell? ⟨Wa.heap.size, 1, none⟩ = some (.int .i64 qa) ∧ w'.cell? ⟨Wa.heap.size, 2, none⟩ = some (.int .i64 qb))
                  (with_reducible (first | exact S10.out | exact S10'.out | exact S9.out | exact S9'.out | exact Sb.out | exact Sb'.out | exact Sa.out | exact Sc.out | exact S8.out | exact S0.out | exact Sy.out | exact St.out | exact Syt.out | exact Sty.out))
                  ((first
                    | (go_at_call 14; ((with_reducible refine (doesA HPL.out HPM.out HD8.out c HC.out.bd u seq x qk qa qb HRR.out).mono ?_); rintro e w8 ⟨rfl, hk8⟩; (
                      have h8 := H8.out.keep hk8
                      have hz8 := hk8.size; simp at hz8
                      have S8 := Lib.hid (h8.sv (gx := w3.heap.size + 1) (gr := Wa.heap.size) (who := u) (seq := seq) (x := x) (qk := qk) (qa := qa) (qb := qb) (by simp) (by simp))
                      have Sa := (h8.keep ((Kept.refl _ _).alloc (.cells rv0 34))).sv (gx := w3.heap.size + 1) (gr := Wa.heap.size) (who := u) (seq := seq) (x := x) (qk := qk) (qa := qa) (qb := qb) (by simp) (by simp)
                      have Sc := (h8.keep ((Kept.refl _ _).alloc (.cells tp0 47))).sv (gx := w3.heap.size + 1) (gr := Wa.heap.size) (who := u) (seq := seq) (x := x) (qk := qk) (qa := qa) (qb := qb) (by simp) (by simp)
                      unfold rv0 at Sa
                      unfold tp0 at Sc
                      replace Sa := Lib.hid Sa
                      replace Sc := Lib.hid Sc
                      obtain ⟨hb, w9, hst9, h9, w10, hst10, h10⟩ := VX.st2 (gy := w8.heap.size) (gt := w8.heap.size + 1) (((h8.more 34 rv0).more' 47 tp0 (w8.heap.size + 1) (by simp)).swap) (by have := HW7.out; omega) (by have := HW7.out; omega) (by omega) (fun x hx => by have := HL7.out x hx; omega) u seq xh xs (.slice (outA D cd f) (k - f) (cd - f)) ⟨tp, ⟨ak, ap, aov, aos, anv, ans⟩, true⟩ rfl
                      have Sb := hb.sv (gx := w3.heap.size + 1) (gr := Wa.heap.size) (who := u) (seq := seq) (x := x) (qk := qk) (qa := qa) (qb := qb) (by simp) (by simp)
                      have S9 := Lib.hid (h9.sv (gx := w3.heap.size + 1) (gr := Wa.heap.size) (who := u) (seq := seq) (x := x) (qk := qk) (qa := qa) (qb := qb) (by simp) (by simp))
                      have S10 := Lib.hid (h10.sv (gx := w3.heap.size + 1) (gr := Wa.heap.size) (who := u) (seq := seq) (x := x) (qk := qk) (qa := qa) (qb := qb) (by simp) (by simp))
                      have H10 := Lib.hid h10
                      (try unfold rv0 at Sb); (try unfold tp0 at Sb); (try unfold rv0 at hst9); (try unfold tp0 at hst9)
                      replace Sb := Lib.hid Sb
                      clear hb h9 h10
                      obtain ⟨hb', w9', hst9', h9', w10', hst10', h10'⟩ := VX.st2 (gy := w8.heap.size + 1) (gt := w8.heap.size) ((h8.more 47 tp0).more' 34 rv0 (w8.heap.size + 1) (by simp)) (by have := HW7.out; omega) (by have := HW7.out; omega) (by omega) (fun x hx => by have := HL7.out x hx; omega) u seq xh xs (.slice (outA D cd f) (k - f) (cd - f)) ⟨tp, ⟨ak, ap, aov, aos, anv, ans⟩, true⟩ rfl
                      have Sb' := hb'.sv (gx := w3.heap.size + 1) (gr := Wa.heap.size) (who := u) (seq := seq) (x := x) (qk := qk) (qa := qa) (qb := qb) (by simp) (by simp)
                      have S9' := Lib.hid (h9'.sv (gx := w3.heap.size + 1) (gr := Wa.heap.size) (who := u) (seq := seq) (x := x) (qk := qk) (qa := qa) (qb := qb) (by simp) (by simp))
                      have S10' := Lib.hid (h10'.sv (gx := w3.heap.size + 1) (gr := Wa.heap.size) (who := u) (seq := seq) (x := x) (qk := qk) (qa := qa) (qb := qb) (by simp) (by simp))
                      have H10' := Lib.hid h10'
                      (try unfold rv0 at Sb'); (try unfold tp0 at Sb'); (try unfold rv0 at hst9'); (try unfold tp0 at hst9')
                      replace Sb' := Lib.hid Sb'
                      clear hb' h9' h10'
                      clear hk8 h8)))
                    | (go_at_call 14; ((with_reducible refine (doesA HPL.out HPM.out HD8y.out c HC.out.bd u seq x qk qa qb HRR.out).mono ?_); rintro e w8 ⟨rfl, hk8⟩; (
                      have h8 := H8y.out.keep hk8
                      have hz8 := hk8.size; simp at hz8
                      have S8 := Lib.hid (h8.sv (gx := w3.heap.size + 1) (gr := Wa.heap.size) (who := u) (seq := seq) (x := x) (qk := qk) (qa := qa) (qb := qb) (by simp) (by simp))
                      obtain ⟨hb, w9, hst9, h9, w10, hst10, h10⟩ := VX.st2 (gy := w7.heap.size + 1) (gt := w8.heap.size) ((h8.more 47 tp0).swap) (by have := HW7.out; omega) (by have := HW7.out; omega) (by omega) (fun x hx => by have := HL7.out x hx; omega) u seq xh xs (.slice (outA D cd f) (k - f) (cd - f)) ⟨tp, ⟨ak, ap, aov, aos, anv, ans⟩, true⟩ rfl
                      have Sb := hb.sv (gx := w3.heap.size + 1) (gr := Wa.heap.size) (who := u) (seq := seq) (x := x) (qk := qk) (qa := qa) (qb := qb) (by simp) (by simp)
                      have S9 := Lib.hid (h9.sv (gx := w3.heap.size + 1) (gr := Wa.heap.size) (who := u) (seq := seq) (x := x) (qk := qk) (qa := qa) (qb := qb) (by simp) (by simp))
                      have S10 := Lib.hid (h10.sv (gx := w3.heap.size + 1) (gr := Wa.heap.size) (who := u) (seq := seq) (x := x) (qk := qk) (qa := qa) (qb := qb) (by simp) (by simp))
                      have H10 := Lib.hid h10
                      (try unfold rv0 at Sb); (try unfold tp0 at Sb); (try unfold rv0 at hst9); (try unfold tp0 at hst9)
                      replace Sb := Lib.hid Sb
                      clear hb h9 h10
                      clear hk8 h8)))
                    | (go_at_call 14; ((with_reducible refine (doesA HPL.out HPM.out HD8t.out c HC.out.bd u seq x qk qa qb HRR.out).mono ?_); rintro e w8 ⟨rfl, hk8⟩; (
                      have h8 := H8t.out.keep hk8
                      have hz8 := hk8.size; simp at hz8
                      have S8 := Lib.hid (h8.sv (gx := w3.heap.size + 1) (gr := Wa.heap.size) (who := u) (seq := seq) (x := x) (qk := qk) (qa := qa) (qb := qb) (by simp) (by simp))
                      obtain ⟨hb, w9, hst9, h9, w10, hst10, h10⟩ := VX.st2 (gy := w8.heap.size) (gt := w7.heap.size + 1) ((h8.more 34 rv0)) (by have := HW7.out; omega) (by have := HW7.out; omega) (by omega) (fun x hx => by have := HL7.out x hx; omega) u seq xh xs (.slice (outA D cd f) (k - f) (cd - f)) ⟨tp, ⟨ak, ap, aov, aos, anv, ans⟩, true⟩ rfl
                      have Sb := hb.sv (gx := w3.heap.size + 1) (gr := Wa.heap.size) (who := u) (seq := seq) (x := x) (qk := qk) (qa := qa) (qb := qb) (by simp) (by simp)
                      have S9 := Lib.hid (h9.sv (gx := w3.heap.size + 1) (gr := Wa.heap.size) (who := u) (seq := seq) (x := x) (qk := qk) (qa := qa) (qb := qb) (by simp) (by simp))
                      have S10 := Lib.hid (h10.sv (gx := w3.heap.size + 1) (gr := Wa.heap.size) (who := u) (seq := seq) (x := x) (qk := qk) (qa := qa) (qb := qb) (by simp) (by simp))
                      have H10 := Lib.hid h10
                      (try unfold rv0 at Sb); (try unfold tp0 at Sb); (try unfold rv0 at hst9); (try unfold tp0 at hst9)
                      replace Sb := Lib.hid Sb
                      clear hb h9 h10
                      clear hk8 h8)))
                    | (go_at_call 14; ((with_reducible refine (doesA HPL.out HPM.out HD8yt.out c HC.out.bd u seq x qk qa qb HRR.out).mono ?_); rintro e w8 ⟨rfl, hk8⟩; (
                      have h8 := H8yt.out.keep hk8
                      have hz8 := hk8.size; simp at hz8
                      have S8 := Lib.hid (h8.sv (gx := w3.heap.size + 1) (gr := Wa.heap.size) (who := u) (seq := seq) (x := x) (qk := qk) (qa := qa) (qb := qb) (by simp) (by simp))
                      obtain ⟨hb, w9, hst9, h9, w10, hst10, h10⟩ := VX.st2 (gy := w7.heap.size + 1) (gt := w7.heap.size + 1 + 1) (h8.swap) (by have := HW7.out; omega) (by have := HW7.out; omega) (by omega) (fun x hx => by have := HL7.out x hx; omega) u seq xh xs (.slice (outA D cd f) (k - f) (cd - f)) ⟨tp, ⟨ak, ap, aov, aos, anv, ans⟩, true⟩ rfl
                      have Sb := hb.sv (gx := w3.heap.size + 1) (gr := Wa.heap.size) (who := u) (seq := seq) (x := x) (qk := qk) (qa := qa) (qb := qb) (by simp) (by simp)
                      have S9 := Lib.hid (h9.sv (gx := w3.heap.size + 1) (gr := Wa.heap.size) (who := u) (seq := seq) (x := x) (qk := qk) (qa := qa) (qb := qb) (by simp) (by simp))
                      have S10 := Lib.hid (h10.sv (gx := w3.heap.size + 1) (gr := Wa.heap.size) (who := u) (seq := seq) (x := x) (qk := qk) (qa := qa) (qb := qb) (by simp) (by simp))
                      have H10 := Lib.hid h10
                      (try unfold rv0 at Sb); (try unfold tp0 at Sb); (try unfold rv0 at hst9); (try unfold tp0 at hst9)
                      replace Sb := Lib.hid Sb
                      clear hb h9 h10
                      clear hk8 h8)))
                    | (go_at_call 14; ((with_reducible refine (doesA HPL.out HPM.out HD8ty.out c HC.out.bd u seq x qk qa qb HRR.out).mono ?_); rintro e w8 ⟨rfl, hk8⟩; (
                      have h8 := H8ty.out.keep hk8
                      have hz8 := hk8.size; simp at hz8
                      have S8 := Lib.hid (h8.sv (gx := w3.heap.size + 1) (gr := Wa.heap.size) (who := u) (seq := seq) (x := x) (qk := qk) (qa := qa) (qb := qb) (by simp) (by simp))
                      obtain ⟨hb, w9, hst9, h9, w10, hst10, h10⟩ := VX.st2 (gy := w7.heap.size + 1 + 1) (gt := w7.heap.size + 1) (h8) (by have := HW7.out; omega) (by have := HW7.out; omega) (by omega) (fun x hx => by have := HL7.out x hx; omega) u seq xh xs (.slice (outA D cd f) (k - f) (cd - f)) ⟨tp, ⟨ak, ap, aov, aos, anv, ans⟩, true⟩ rfl
                      have Sb := hb.sv (gx := w3.heap.size + 1) (gr := Wa.heap.size) (who := u) (seq := seq) (x := x) (qk := qk) (qa := qa) (qb := qb) (by simp) (by simp)
                      have S9 := Lib.hid (h9.sv (gx := w3.heap.size + 1) (gr := Wa.heap.size) (who := u) (seq := seq) (x := x) (qk := qk) (qa := qa) (qb := qb) (by simp) (by simp))
                      have S10 := Lib.hid (h10.sv (gx := w3.heap.size + 1) (gr := Wa.heap.size) (who := u) (seq := seq) (x := x) (qk := qk) (qa := qa) (qb := qb) (by simp) (by simp))
                      have H10 := Lib.hid h10
                      (try unfold rv0 at Sb); (try unfold tp0 at Sb); (try unfold rv0 at hst9); (try unfold tp0 at hst9)
                      replace Sb := Lib.hid Sb
                      clear hb h9 h10
                      clear hk8 h8)))))
                all_goals (go_wp2_with fail; go_meet; first | exact ⟨_, _, rfl, rfl, rfl, rfl, H10.out⟩ | exact ⟨_, _, rfl, rfl, rfl, rfl, H10'.out⟩)
              case rest =>
              obtain ⟨gy, gt, rfl, rfl, rfl, rfl, h10⟩ := hcut
              have H10 := Lib.hid h10
              clear h10
              have d2 : wc.cell? ⟨gt, 2, none⟩ = some (.int .i64 ak) := H10.out.at.cell 2
              have d3 : wc.cell? ⟨gt, 3, none⟩ = some (.int .i64 ap) := H10.out.at.cell 3
              have d4 : wc.cell? ⟨gt, 4, none⟩ = some (.int .u64 aov) := H10.out.at.cell 4
              have d5 : wc.cell? ⟨gt, 5, none⟩ = some (.int .u64 aos) := H10.out.at.cell 5
              have d6 : wc.cell? ⟨gt, 6, none⟩ = some (.int .u64 anv) := H10.out.at.cell 6
              have d7 : wc.cell? ⟨gt, 7, none⟩ = some (.int .u64 ans) := H10.out.at.cell 7
              have d8 : wc.cell? ⟨gt, 8, none⟩ = some (.bool true) := H10.out.at.cell 8
              have HOP := Lib.hid (H10.out.blks (w7.heap.size, 43, #[.int .i64 ak, .int .i64 ap, .int .u64 aov, .int .u64 aos, .int .u64 anv, .int .u64 ans]) (by simp)).1
              have o0 : wc.cell? ⟨w7.heap.size, 0, none⟩ = some (.int .i64 ak) := HOP.out.cell 0
              have o1 : wc.cell? ⟨w7.heap.size, 1, none⟩ = some (.int .i64 ap) := HOP.out.cell 1
              have o2 : wc.cell? ⟨w7.heap.size, 2, none⟩ = some (.int .u64 aov) := HOP.out.cell 2
              have o3 : wc.cell? ⟨w7.heap.size, 3, none⟩ = some (.int .u64 aos) := HOP.out.cell 3
              have o4 : wc.cell? ⟨w7.heap.size, 4, none⟩ = some (.int .u64 anv) := HOP.out.cell 4
              have o5 : wc.cell? ⟨w7.heap.size, 5, none⟩ = some (.int .u64 ans) := HOP.out.cell 5
              
              
              by_cases hkm' : k = m
              · subst hkm'
                go_wp2_with (go_at_call 15; ((refine (VX.fin H10.out).mono ?_); rw [HST.out]; rintro e w11 ⟨rfl, h⟩; have H11 := Lib.hid h; clear h))
                go_ret
                exact ⟨rfl, H11.out.kept⟩
              · have hkm2 : ((k : Int) == m) = false := by simp; omega
                have hk3 : k < m := by omega
                obtain ⟨o, ho⟩ : ∃ o, lv[k]? = some o := ⟨_, List.getElem?_eq_getElem (by rw [HLV.out]; exact hk3)⟩
                have HO2 := Lib.hid ho
                clear ho hkm'
                obtain ⟨gd, gp, eD, hgd, hcD⟩ := HDD.out (by rw [List.length_map, HLV.out]; omega)
                subst eD
                have hce := hcD k o.cells (by rw [List.getElem?_map, HO2.out]; rfl)
                have X0 : Hid (w.cell? ⟨gd, gp + k * 3, none⟩ = some (.int .u64 o.val) ∧ w.cell? ⟨gd, gp + k * 3 + 1, none⟩ = some (.int .u64 o.seq) ∧ w.cell? ⟨gd, gp + k * 3 + 2, none⟩ = some (.bool o.ok)) := Lib.hid ⟨hce 0 _ rfl, hce 1 _ rfl, hce 2 _ rfl⟩
                clear hgd hcD hce
                go_wp2_with (first
                  | (go_at_call 15; ((refine (VX.fin H10.out).mono ?_); rw [HST.out]; rintro e w11 ⟨rfl, h⟩; have H11 := Lib.hid h; have q0 := h.kept.cell_some (fun h => h) X0.out.1; have q1 := h.kept.cell_some (fun h => h) X0.out.2.1; have q2 := h.kept.cell_some (fun h => h) X0.out.2.2; clear h))
                  | (go_at_call 16; ((refine (VX.tell H11.out o.val o.seq o.ok).mono ?_); rintro e w12 ⟨rfl, h⟩; have H12 := Lib.hid h; clear h)))
                have HNX := Lib.hid (HSN.out o HO2.out HO.out)
                first | exact ⟨⟨_, k + 1, rfl, by simp, by omega, hk3, HNX.out.1, by rw [HNX.out.2]; exact H12.out.sub (by simp)⟩, by simp [intOf]; omega⟩ | (go_roundw; (case rel => exact ⟨_, k + 1, rfl, by simp, by omega, hk3, HNX.out.1, by rw [HNX.out.2]; exact H12.out.sub (by simp)⟩); (case measure => simp [intOf]; omega))
            | false =>
              have HO : Hid (v2.st ≠ 0) := Lib.hid (by simpa using hok)
              replace HEND := Lib.hid (HEND.out rfl)
              clear hok
              go_wp2_with (go_at_call 13; ((refine (VX.askTo HV.out HC.out.bd HBK.out HAK.out).mono ?_); rintro e w7 ⟨rfl, h⟩; have H7 := Lib.hid h; clear h))
              have h7 := H7.out.more 43 #[.int .i64 ak, .int .i64 ap, .int .u64 aov, .int .u64 aos, .int .u64 anv, .int .u64 ans]
              have hlt7 : ∀ x ∈ ((w7.heap.size, 43, #[.int .i64 ak, .int .i64 ap, .int .u64 aov, .int .u64 aos, .int .u64 anv, .int .u64 ans]) :: _ : List (Nat × TypeId × Array Value)), x.1 < w7.heap.size + 1 := fun x hx => by have := (h7.blks x hx).1.lt; simpa using this
              have HL7 := Lib.hid hlt7
              have HW7 : Hid (w.heap.size ≤ w7.heap.size) := Lib.hid H7.out.kept.size
              have hs7 : (w7.alloc (.cells #[.int .i64 ak, .int .i64 ap, .int .u64 aov, .int .u64 aos, .int .u64 anv, .int .u64 ans] 43)).heap.size = w7.heap.size + 1 := by simp
              have h7y := h7.more' 34 rv0 (w7.heap.size + 1) (by simp)
              have h7t := h7.more' 47 tp0 (w7.heap.size + 1) (by simp)
              have h7yt := h7y.more' 47 tp0 (w7.heap.size + 1 + 1) (by simp)
              have h7ty := h7t.more' 34 rv0 (w7.heap.size + 1 + 1) (by simp)
              have H8 := Lib.hid (h7.keep ((Kept.refl _ _).drew))
              have H8y := Lib.hid (h7y.keep ((Kept.refl _ _).drew))
              have H8t := Lib.hid (h7t.keep ((Kept.refl _ _).drew))
              have H8yt := Lib.hid (h7yt.keep ((Kept.refl _ _).drew))
              have H8ty := Lib.hid (h7ty.keep ((Kept.refl _ _).drew))
              have S0 := Lib.hid (H8.out.sv (gx := w3.heap.size + 1) (gr := Wa.heap.size) (who := u) (seq := seq) (x := x) (qk := qk) (qa := qa) (qb := qb) (by simp) (by simp))
              have Sy := H8y.out.sv (gx := w3.heap.size + 1) (gr := Wa.heap.size) (who := u) (seq := seq) (x := x) (qk := qk) (qa := qa) (qb := qb) (by simp) (by simp)
              have St := H8t.out.sv (gx := w3.heap.size + 1) (gr := Wa.heap.size) (who := u) (seq := seq) (x := x) (qk := qk) (qa := qa) (qb := qb) (by simp) (by simp)
              have Syt := H8yt.out.sv (gx := w3.heap.size + 1) (gr := Wa.heap.size) (who := u) (seq := seq) (x := x) (qk := qk) (qa := qa) (qb := qb) (by simp) (by simp)
              have Sty := H8ty.out.sv (gx := w3.heap.size + 1) (gr := Wa.heap.size) (who := u) (seq := seq) (x := x) (qk := qk) (qa := qa) (qb := qb) (by simp) (by simp)
              have HD8 := Lib.hid ((HDD.out.kept H8.out.kept).part (c := cd) HFK.out.1 (by rw [HLV.out]; exact HFK.out.2) (by rw [HLV.out]; exact HCD.out))
              have HD8y := (HDD.out.kept H8y.out.kept).part (c := cd) HFK.out.1 (by rw [HLV.out]; exact HFK.out.2) (by rw [HLV.out]; exact HCD.out)
              have HD8t := (HDD.out.kept H8t.out.kept).part (c := cd) HFK.out.1 (by rw [HLV.out]; exact HFK.out.2) (by rw [HLV.out]; exact HCD.out)
              have HD8yt := (HDD.out.kept H8yt.out.kept).part (c := cd) HFK.out.1 (by rw [HLV.out]; exact HFK.out.2) (by rw [HLV.out]; exact HCD.out)
              have HD8ty := (HDD.out.kept H8ty.out.kept).part (c := cd) HFK.out.1 (by rw [HLV.out]; exact HFK.out.2) (by rw [HLV.out]; exact HCD.out)
              unfold rv0 at Sy HD8y
              unfold tp0 at St HD8t
              unfold rv0 tp0 at Syt Sty HD8yt HD8ty
              replace Sy := Lib.hid Sy
              replace St := Lib.hid St
              replace Syt := Lib.hid Syt
              replace Sty := Lib.hid Sty
              replace HD8y := Lib.hid HD8y
              replace HD8t := Lib.hid HD8t
              replace HD8yt := Lib.hid HD8yt
              replace HD8ty := Lib.hid HD8ty
              clear h7 h7y h7t h7yt h7ty hlt7 hs7
              go_cut [20, 21, 22, 23] (fun s20 s21 s22 s23 wx => ∃ gy gt : Nat, s20 = .pointer (some ⟨gy, 0, none⟩) ∧ s21 = .pointer (some ⟨gt, 0, none⟩) ∧ s22 = .int .u64 val ∧ s23 = .int .i64 st ∧
                VX w wx B c v2 [(gt, 47, tpA (.slice (outA D cd f) (k - f) (cd - f)) ⟨tp, ⟨ak, ap, aov, aos, anv, ans⟩, false⟩), (gy, 34, rvA c u seq xh xs), (w7.heap.size, 43, #[.int .i64 ak, .int .i64 ap, .int .u64 aov, .int .u64 aos, .int .u64 anv, .int .u64 ans]), (Wa.heap.size, 38, #[.int .i64 qk, .int .i64 qa, .int .i64 qb]), (w3.heap.size + 1, 34, rvA c u seq x.held x.stale), (w.heap.size, 24, cfgA c)])
              case first =>
                go_region_held3 (fun w' => (ldRv ⟨w3.heap.size + 1, 0, none⟩).run Try.prog w' = .ok (.agg (rvA c u seq x.held x.stale)) w' ∧ w'.cell? ⟨Wa.heap.size, 0, none⟩ = some (.int .i64 qk) ∧ w'.cell? ⟨Wa.heap.size, 1, none⟩ = some (.int .i64 qa) ∧ w'.cell? ⟨Wa.heap.size, 2, none⟩ = some (.int .i64 qb))
                  (with_reducible (first | exact S10.out | exact S10'.out | exact S9.out | exact S9'.out | exact Sb.out | exact Sb'.out | exact Sa.out | exact Sc.out | exact S8.out | exact S0.out | exact Sy.out | exact St.out | exact Syt.out | exact Sty.out))
                  ((first
                    | (go_at_call 14; ((with_reducible refine (doesA HPL.out HPM.out HD8.out c HC.out.bd u seq x qk qa qb HRR.out).mono ?_); rintro e w8 ⟨rfl, hk8⟩; (
                      have h8 := H8.out.keep hk8
                      have hz8 := hk8.size; simp at hz8
                      have S8 := Lib.hid (h8.sv (gx := w3.heap.size + 1) (gr := Wa.heap.size) (who := u) (seq := seq) (x := x) (qk := qk) (qa := qa) (qb := qb) (by simp) (by simp))
                      have Sa := (h8.keep ((Kept.refl _ _).alloc (.cells rv0 34))).sv (gx := w3.heap.size + 1) (gr := Wa.heap.size) (who := u) (seq := seq) (x := x) (qk := qk) (qa := qa) (qb := qb) (by simp) (by simp)
                      have Sc := (h8.keep ((Kept.refl _ _).alloc (.cells tp0 47))).sv (gx := w3.heap.size + 1) (gr := Wa.heap.size) (who := u) (seq := seq) (x := x) (qk := qk) (qa := qa) (qb := qb) (by simp) (by simp)
                      unfold rv0 at Sa
                      unfold tp0 at Sc
                      replace Sa := Lib.hid Sa
                      replace Sc := Lib.hid Sc
                      obtain ⟨hb, w9, hst9, h9, w10, hst10, h10⟩ := VX.st2 (gy := w8.heap.size) (gt := w8.heap.size + 1) (((h8.more 34 rv0).more' 47 tp0 (w8.heap.size + 1) (by simp)).swap) (by have := HW7.out; omega) (by have := HW7.out; omega) (by omega) (fun x hx => by have := HL7.out x hx; omega) u seq xh xs (.slice (outA D cd f) (k - f) (cd - f)) ⟨tp, ⟨ak, ap, aov, aos, anv, ans⟩, false⟩ rfl
                      have Sb := hb.sv (gx := w3.heap.size + 1) (gr := Wa.heap.size) (who := u) (seq := seq) (x := x) (qk := qk) (qa := qa) (qb := qb) (by simp) (by simp)
                      have S9 := Lib.hid (h9.sv (gx := w3.heap.size + 1) (gr := Wa.heap.size) (who := u) (seq := seq) (x := x) (qk := qk) (qa := qa) (qb := qb) (by simp) (by simp))
                      have S10 := Lib.hid (h10.sv (gx := w3.heap.size + 1) (gr := Wa.heap.size) (who := u) (seq := seq) (x := x) (qk := qk) (qa := qa) (qb := qb) (by simp) (by simp))
                      have H10 := Lib.hid h10
                      (try unfold rv0 at Sb); (try unfold tp0 at Sb); (try unfold rv0 at hst9); (try unfold tp0 at hst9)
                      replace Sb := Lib.hid Sb
                      clear hb h9 h10
                      obtain ⟨hb', w9', hst9', h9', w10', hst10', h10'⟩ := VX.st2 (gy := w8.heap.size + 1) (gt := w8.heap.size) ((h8.more 47 tp0).more' 34 rv0 (w8.heap.size + 1) (by simp)) (by have := HW7.out; omega) (by have := HW7.out; omega) (by omega) (fun x hx => by have := HL7.out x hx; omega) u seq xh xs (.slice (outA D cd f) (k - f) (cd - f)) ⟨tp, ⟨ak, ap, aov, aos, anv, ans⟩, false⟩ rfl
                      have Sb' := hb'.sv (gx := w3.heap.size + 1) (gr := Wa.heap.size) (who := u) (seq := seq) (x := x) (qk := qk) (qa := qa) (qb := qb) (by simp) (by simp)
                      have S9' := Lib.hid (h9'.sv (gx := w3.heap.size + 1) (gr := Wa.heap.size) (who := u) (seq := seq) (x := x) (qk := qk) (qa := qa) (qb := qb) (by simp) (by simp))
                      have S10' := Lib.hid (h10'.sv (gx := w3.heap.size + 1) (gr := Wa.heap.size) (who := u) (seq := seq) (x := x) (qk := qk) (qa := qa) (qb := qb) (by simp) (by simp))
                      have H10' := Lib.hid h10'
                      (try unfold rv0 at Sb'); (try unfold tp0 at Sb'); (try unfold rv0 at hst9'); (try unfold tp0 at hst9')
                      replace Sb' := Lib.hid Sb'
                      clear hb' h9' h10'
                      clear hk8 h8)))
                    | (go_at_call 14; ((with_reducible refine (doesA HPL.out HPM.out HD8y.out c HC.out.bd u seq x qk qa qb HRR.out).mono ?_); rintro e w8 ⟨rfl, hk8⟩; (
                      have h8 := H8y.out.keep hk8
                      have hz8 := hk8.size; simp at hz8
                      have S8 := Lib.hid (h8.sv (gx := w3.heap.size + 1) (gr := Wa.heap.size) (who := u) (seq := seq) (x := x) (qk := qk) (qa := qa) (qb := qb) (by simp) (by simp))
                      obtain ⟨hb, w9, hst9, h9, w10, hst10, h10⟩ := VX.st2 (gy := w7.heap.size + 1) (gt := w8.heap.size) ((h8.more 47 tp0).swap) (by have := HW7.out; omega) (by have := HW7.out; omega) (by omega) (fun x hx => by have := HL7.out x hx; omega) u seq xh xs (.slice (outA D cd f) (k - f) (cd - f)) ⟨tp, ⟨ak, ap, aov, aos, anv, ans⟩, false⟩ rfl
                      have Sb := hb.sv (gx := w3.heap.size + 1) (gr := Wa.heap.size) (who := u) (seq := seq) (x := x) (qk := qk) (qa := qa) (qb := qb) (by simp) (by simp)
                      have S9 := Lib.hid (h9.sv (gx := w3.heap.size + 1) (gr := Wa.heap.size) (who := u) (seq := seq) (x := x) (qk := qk) (qa := qa) (qb := qb) (by simp) (by simp))
                      have S10 := Lib.hid (h10.sv (gx := w3.heap.size + 1) (gr := Wa.heap.size) (who := u) (seq := seq) (x := x) (qk := qk) (qa := qa) (qb := qb) (by simp) (by simp))
                      have H10 := Lib.hid h10
                      (try unfold rv0 at Sb); (try unfold tp0 at Sb); (try unfold rv0 at hst9); (try unfold tp0 at hst9)
                      replace Sb := Lib.hid Sb
                      clear hb h9 h10
                      clear hk8 h8)))
                    | (go_at_call 14; ((with_reducible refine (doesA HPL.out HPM.out HD8t.out c HC.out.bd u seq x qk qa qb HRR.out).mono ?_); rintro e w8 ⟨rfl, hk8⟩; (
                      have h8 := H8t.out.keep hk8
                      have hz8 := hk8.size; simp at hz8
                      have S8 := Lib.hid (h8.sv (gx := w3.heap.size + 1) (gr := Wa.heap.size) (who := u) (seq := seq) (x := x) (qk := qk) (qa := qa) (qb := qb) (by simp) (by simp))
                      obtain ⟨hb, w9, hst9, h9, w10, hst10, h10⟩ := VX.st2 (gy := w8.heap.size) (gt := w7.heap.size + 1) ((h8.more 34 rv0)) (by have := HW7.out; omega) (by have := HW7.out; omega) (by omega) (fun x hx => by have := HL7.out x hx; omega) u seq xh xs (.slice (outA D cd f) (k - f) (cd - f)) ⟨tp, ⟨ak, ap, aov, aos, anv, ans⟩, false⟩ rfl
                      have Sb := hb.sv (gx := w3.heap.size + 1) (gr := Wa.heap.size) (who := u) (seq := seq) (x := x) (qk := qk) (qa := qa) (qb := qb) (by simp) (by simp)
                      have S9 := Lib.hid (h9.sv (gx := w3.heap.size + 1) (gr := Wa.heap.size) (who := u) (seq := seq) (x := x) (qk := qk) (qa := qa) (qb := qb) (by simp) (by simp))
                      have S10 := Lib.hid (h10.sv (gx := w3.heap.size + 1) (gr := Wa.heap.size) (who := u) (seq := seq) (x := x) (qk := qk) (qa := qa) (qb := qb) (by simp) (by simp))
                      have H10 := Lib.hid h10
                      (try unfold rv0 at Sb); (try unfold tp0 at Sb); (try unfold rv0 at hst9); (try unfold tp0 at hst9)
                      replace Sb := Lib.hid Sb
                      clear hb h9 h10
                      clear hk8 h8)))
                    | (go_at_call 14; ((with_reducible refine (doesA HPL.out HPM.out HD8yt.out c HC.out.bd u seq x qk qa qb HRR.out).mono ?_); rintro e w8 ⟨rfl, hk8⟩; (
                      have h8 := H8yt.out.keep hk8
                      have hz8 := hk8.size; simp at hz8
                      have S8 := Lib.hid (h8.sv (gx := w3.heap.size + 1) (gr := Wa.heap.size) (who := u) (seq := seq) (x := x) (qk := qk) (qa := qa) (qb := qb) (by simp) (by simp))
                      obtain ⟨hb, w9, hst9, h9, w10, hst10, h10⟩ := VX.st2 (gy := w7.heap.size + 1) (gt := w7.heap.size + 1 + 1) (h8.swap) (by have := HW7.out; omega) (by have := HW7.out; omega) (by omega) (fun x hx => by have := HL7.out x hx; omega) u seq xh xs (.slice (outA D cd f) (k - f) (cd - f)) ⟨tp, ⟨ak, ap, aov, aos, anv, ans⟩, false⟩ rfl
                      have Sb := hb.sv (gx := w3.heap.size + 1) (gr := Wa.heap.size) (who := u) (seq := seq) (x := x) (qk := qk) (qa := qa) (qb := qb) (by simp) (by simp)
                      have S9 := Lib.hid (h9.sv (gx := w3.heap.size + 1) (gr := Wa.heap.size) (who := u) (seq := seq) (x := x) (qk := qk) (qa := qa) (qb := qb) (by simp) (by simp))
                      have S10 := Lib.hid (h10.sv (gx := w3.heap.size + 1) (gr := Wa.heap.size) (who := u) (seq := seq) (x := x) (qk := qk) (qa := qa) (qb := qb) (by simp) (by simp))
                      have H10 := Lib.hid h10
                      (try unfold rv0 at Sb); (try unfold tp0 at Sb); (try unfold rv0 at hst9); (try unfold tp0 at hst9)
                      replace Sb := Lib.hid Sb
                      clear hb h9 h10
                      clear hk8 h8)))
                    | (go_at_call 14; ((with_reducible refine (doesA HPL.out HPM.out HD8ty.out c HC.out.bd u seq x qk qa qb HRR.out).mono ?_); rintro e w8 ⟨rfl, hk8⟩; (
                      have h8 := H8ty.out.keep hk8
                      have hz8 := hk8.size; simp at hz8
                      have S8 := Lib.hid (h8.sv (gx := w3.heap.size + 1) (gr := Wa.heap.size) (who := u) (seq := seq) (x := x) (qk := qk) (qa := qa) (qb := qb) (by simp) (by simp))
                      obtain ⟨hb, w9, hst9, h9, w10, hst10, h10⟩ := VX.st2 (gy := w7.heap.size + 1 + 1) (gt := w7.heap.size + 1) (h8) (by have := HW7.out; omega) (by have := HW7.out; omega) (by omega) (fun x hx => by have := HL7.out x hx; omega) u seq xh xs (.slice (outA D cd f) (k - f) (cd - f)) ⟨tp, ⟨ak, ap, aov, aos, anv, ans⟩, false⟩ rfl
                      have Sb := hb.sv (gx := w3.heap.size + 1) (gr := Wa.heap.size) (who := u) (seq := seq) (x := x) (qk := qk) (qa := qa) (qb := qb) (by simp) (by simp)
                      have S9 := Lib.hid (h9.sv (gx := w3.heap.size + 1) (gr := Wa.heap.size) (who := u) (seq := seq) (x := x) (qk := qk) (qa := qa) (qb := qb) (by simp) (by simp))
                      have S10 := Lib.hid (h10.sv (gx := w3.heap.size + 1) (gr := Wa.heap.size) (who := u) (seq := seq) (x := x) (qk := qk) (qa := qa) (qb := qb) (by simp) (by simp))
                      have H10 := Lib.hid h10
                      (try unfold rv0 at Sb); (try unfold tp0 at Sb); (try unfold rv0 at hst9); (try unfold tp0 at hst9)
                      replace Sb := Lib.hid Sb
                      clear hb h9 h10
                      clear hk8 h8)))))
                all_goals (go_wp2_with fail; go_meet; first | exact ⟨_, _, rfl, rfl, rfl, rfl, H10.out⟩ | exact ⟨_, _, rfl, rfl, rfl, rfl, H10'.out⟩)
              case rest =>
              obtain ⟨gy, gt, rfl, rfl, rfl, rfl, h10⟩ := hcut
              have H10 := Lib.hid h10
              clear h10
              have d2 : wc.cell? ⟨gt, 2, none⟩ = some (.int .i64 ak) := H10.out.at.cell 2
              have d3 : wc.cell? ⟨gt, 3, none⟩ = some (.int .i64 ap) := H10.out.at.cell 3
              have d4 : wc.cell? ⟨gt, 4, none⟩ = some (.int .u64 aov) := H10.out.at.cell 4
              have d5 : wc.cell? ⟨gt, 5, none⟩ = some (.int .u64 aos) := H10.out.at.cell 5
              have d6 : wc.cell? ⟨gt, 6, none⟩ = some (.int .u64 anv) := H10.out.at.cell 6
              have d7 : wc.cell? ⟨gt, 7, none⟩ = some (.int .u64 ans) := H10.out.at.cell 7
              have d8 : wc.cell? ⟨gt, 8, none⟩ = some (.bool false) := H10.out.at.cell 8
              have HOP := Lib.hid (H10.out.blks (w7.heap.size, 43, #[.int .i64 ak, .int .i64 ap, .int .u64 aov, .int .u64 aos, .int .u64 anv, .int .u64 ans]) (by simp)).1
              have o0 : wc.cell? ⟨w7.heap.size, 0, none⟩ = some (.int .i64 ak) := HOP.out.cell 0
              have o1 : wc.cell? ⟨w7.heap.size, 1, none⟩ = some (.int .i64 ap) := HOP.out.cell 1
              have o2 : wc.cell? ⟨w7.heap.size, 2, none⟩ = some (.int .u64 aov) := HOP.out.cell 2
              have o3 : wc.cell? ⟨w7.heap.size, 3, none⟩ = some (.int .u64 aos) := HOP.out.cell 3
              have o4 : wc.cell? ⟨w7.heap.size, 4, none⟩ = some (.int .u64 anv) := HOP.out.cell 4
              have o5 : wc.cell? ⟨w7.heap.size, 5, none⟩ = some (.int .u64 ans) := HOP.out.cell 5
              
              
              have hxx : (xh != xh) = false := by simp
              go_wp2_with (go_at_call 15; ((refine (VX.fin H10.out).mono ?_); rw [HST.out, HEND.out.1]; rintro e w11 ⟨rfl, h⟩; have hly := ldRv_blk (h.blks (gy, 34, rvA c u seq xh xs) (by simp)).1 rfl; obtain ⟨w12, hst12, h12⟩ := (h.sub (M := (w3.heap.size + 1, 34, rvA c u seq x.held x.stale) :: [(w.heap.size, 24, cfgA c)]) (by simp)).turnX HG.out.1 (fun y hy => by simp at hy; subst hy; have := HG.out.2; show w.heap.size ≠ _; omega) rfl rfl (rvA_one c u seq xh xs); have H12 := Lib.hid h12; have hx8 : w12.cell? ⟨w3.heap.size + 1, 8, none⟩ = some (.int .i64 xh) := h12.at.cell 8; have HHd : Hid (∀ q, Calls Try.prog 17 #[.pointer (some ⟨B, 0, none⟩)] (World.drewN w12 q) fun e w' => e = .returned (.int .i64 xh) ∧ w' = World.drewN w12 q) := Lib.hid (fun q => (vwHeld_calls (Blk.drewN H12.out.vw q)).mono (fun _ _ ⟨h1, h2⟩ => ⟨h1.trans (by rw [HEND.out.2.held]), h2.symm⟩)); clear h h12))
              go_quiet (first | (go_at_call 17; refine Calls.quiet_of_same (HHd.out _)))
              go_wp2_with fail
              have HKF := HFK.out.2
              first | exact ⟨⟨_, k, ii + 1, v2, ⟨xh, xs⟩, rfl, rfl, rfl, by simp, by omega, HKF, HEND.out.2, H12.out.keep ((Kept.refl _ _).drewN _)⟩, by simp [intOf]; omega⟩ | (go_roundw; (case rel => exact ⟨_, k, ii + 1, v2, ⟨xh, xs⟩, rfl, rfl, rfl, by simp, by omega, HKF, HEND.out.2, H12.out.keep ((Kept.refl _ _).drewN _)⟩); (case measure => simp [intOf]; omega))
        · obtain rfl : n = ii := by omega
          have HS := Lib.hid hS
          clear hS H5 hlt
          go_wp2_with fail
          go_ret
          exact ⟨rfl, HS.out.kept⟩
  · have HD := Lib.hid (decide_eq_false hok)
    have HB0 : Hid (Blk (w.alloc (.cells (cfgA c) 24)) w.heap.size 24 (cfgA c)) := Lib.hid (Blk.new _ _ _)
    have HK0 : Hid (Kept (fun _ => False) w (w.alloc (.cells (cfgA c) 24))) := Lib.hid ((Kept.refl _ _).alloc _)
    clear hok hA hD hwq hq hv
    unfold cfgV
    go_enter Try.func3, Try.ntmps3
    go_wp2_with (first
      | (go_at_call 9; ((refine (HO'.out _).mono ?_); rintro e w1 ⟨rfl, hk⟩; have HK1 := Lib.hid (HK0.out.trans hk); have HB1 := Lib.hid (hk.blk HB0.out (fun h => h)); have hl1 := loadCfg_blk HB1.out; clear hk))
      | (go_at_call 10; ((refine (right7 c _).mono ?_); rintro e w2 ⟨rfl, hk⟩; rw [HD.out]; have HK2 := Lib.hid (HK1.out.trans hk); clear hk hl1)))
    go_ret
    exact ⟨rfl, HK2.out⟩
end Go.Proofs.Ythjkodjpopcjaaa
