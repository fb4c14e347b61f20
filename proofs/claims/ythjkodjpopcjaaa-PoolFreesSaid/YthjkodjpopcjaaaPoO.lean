/- PoolBack: the law's walk. -/
import Derived.Test.YthjkodjpopcjaaaPoN
namespace Go.Proofs.Ythjkodjpopcjaaa
open Go.RowKit Go.Maps
attribute [local go_sem ↓] loadMap_eq stMap_eq loadCfg_eq

def acCells (x : Int × Int) : List Value := [.int .i64 x.1, .int .i64 x.2]
/-- What one act makes of how a pool stands, and of what is put. -/
def actD (c : CfgD) (r : Int) (s : Int × Int × List (Int × Int)) (a : Int × Int) : Int × Int × List (Int × Int) :=
  if a.1 = 0 then ((takeD c r s.1 s.2.2 a.2).1, s.2.1, (takeD c r s.1 s.2.2 a.2).2) else (s.1, (giveD c r s.2.1 s.2.2 a.2).1, (giveD c r s.2.1 s.2.2 a.2).2)
theorem takeD_bd {c : CfgD} {r nt : Int} {ps : List (Int × Int)} {a : Int} (h : 0 ≤ nt) : 0 ≤ (takeD c r nt ps a).1 ∧ (takeD c r nt ps a).1 ≤ nt := by
  unfold takeD
  split
  · exact ⟨h, Int.le_refl _⟩
  · rename_i hh
    simp only
    omega
theorem giveD_bd {c : CfgD} {r nl : Int} {ps : List (Int × Int)} {a : Int} (h : nl ≤ c.lim) : nl ≤ (giveD c r nl ps a).1 ∧ (giveD c r nl ps a).1 ≤ c.lim := by
  unfold giveD
  split
  · exact ⟨Int.le_refl _, h⟩
  · rename_i hh
    simp only
    omega
/-- The loop over acts. -/
def BkRel (w : World) (L : BlkL) (B mb : Nat) (lv : Value) (c : CfgD) (p : PoD) (n b m : Nat) (i : Value) (wr : World) : Prop :=
  ∃ (W : World) (k : Nat) (nt nl : Int) (ps : List (Int × Int)), W = wr ∧ i = .int .i64 k ∧ k ≤ m ∧ 0 ≤ nt ∧ nt ≤ c.b ∧ 0 ≤ nl ∧ nl ≤ c.lim ∧ PY L w W B mb lv c { p with nt := nt, nl := nl } n b 1000 ps (9 * k)
theorem markX {w : World} {B mb n : Nat} {lv : Value} {c : CfgD} {p : PoD} (h : PoS w B mb lv c p n) {a b : Int} (h1 : p.nt = a) (h2 : p.nl = b) : Calls Try.prog 30 #[.pointer (some ⟨B, 0, none⟩)] w fun e w' => e = .returned (.agg #[.int .i64 a, .int .i64 b]) ∧ Kept (fun _ => False) w w' := by
  subst h1 h2
  exact markP_calls h
theorem PX.markS {G : Nat → Prop} {R : World → Prop} {w0 w : World} {B mb : Nat} {lv : Value} {c : CfgD} {p : PoD} {n b : Nat} {r : Int} {ps : List (Int × Int)} {k : Nat} (h : PX G R w0 w B mb lv c p n b r ps k) {j : Int} (hj : (ps.length : Int) = j) :
    Calls Try.prog 31 #[.pointer (some ⟨b, 0, none⟩)] w fun e w' => e = .returned (.int .i64 j) ∧ w = w' := by
  subst hj
  exact h.mark_
theorem PX.lenS {G : Nat → Prop} {R : World → Prop} {w0 w : World} {B mb : Nat} {lv : Value} {c : CfgD} {p : PoD} {n b : Nat} {r : Int} {ps : List (Int × Int)} {k : Nat} (h : PX G R w0 w B mb lv c p n b r ps k) {j : Int} (hj : ((ents ps).length : Int) = j) :
    Calls Try.prog 51 #[.pointer (some ⟨b, 0, none⟩)] w fun e w' => e = .returned (.int .i64 j) ∧ w = w' := by
  subst hj
  exact h.len_
theorem bk_S {L : BlkL} {w0 w : World} {B mb : Nat} {lv : Value} {c : CfgD} {p : PoD} {n b : Nat} {r : Int} {ps : List (Int × Int)} {k : Nat} (H : PY L w0 w B mb lv c p n b r ps k) {ma mb' gm : Nat} {a0 a1 b0 b1 : Int}
    (h1 : (ma, 83, #[.int .i64 a0, .int .i64 a1]) ∈ L) (h2 : (mb', 83, #[.int .i64 b0, .int .i64 b1]) ∈ L) (h3 : (gm, 31, mapA c) ∈ L) :
    w.cell? ⟨ma, 0, none⟩ = some (.int .i64 a0) ∧ w.cell? ⟨ma, 1, none⟩ = some (.int .i64 a1) ∧ w.cell? ⟨mb', 0, none⟩ = some (.int .i64 b0) ∧ w.cell? ⟨mb', 1, none⟩ = some (.int .i64 b1) ∧ (loadMap ⟨gm, 0, none⟩).run Try.prog w = .ok (.agg (mapA c)) w :=
  ⟨Blk.cell (PY.blk H h1) 0, Blk.cell (PY.blk H h1) 1, Blk.cell (PY.blk H h2) 0, Blk.cell (PY.blk H h2) 1, loadMap_arr (PY.blk H h3) rfl⟩
theorem bk_T {L : BlkL} {w0 w : World} {B mb : Nat} {lv : Value} {c : CfgD} {p : PoD} {n b : Nat} {r : Int} {ps : List (Int × Int)} {k : Nat} (H : PY L w0 w B mb lv c p n b r ps k) {ma gc : Nat} {a0 a1 : Int}
    (h1 : (ma, 83, #[.int .i64 a0, .int .i64 a1]) ∈ L) (h2 : (gc, 24, cfgA c) ∈ L) :
    w.cell? ⟨ma, 0, none⟩ = some (.int .i64 a0) ∧ w.cell? ⟨ma, 1, none⟩ = some (.int .i64 a1) ∧ w.cell? ⟨gc, 1, none⟩ = some (.int .i64 c.b) :=
  ⟨Blk.cell (PY.blk H h1) 0, Blk.cell (PY.blk H h1) 1, Blk.cell (PY.blk H h2) 1⟩
theorem settle_zP {c : CfgD} {n : Nat} {t : Int} {r : Int} {ps : List (Int × Int)} : settleD c r (zP c n t) ps = ({ zP c n t with sd := true }, ps) := by
  unfold settleD
  rw [if_neg (by simp [zP, doneP])]
  rfl
set_option maxRecDepth 100000 in
set_option maxHeartbeats 8000000 in
theorem back10_law (c : CfgD) (top : Int) (D : Option Addr) (m cd : Nat) (la : List (Int × Int)) (w : World) (_h1 : Int64 top)
    (ha : la.length = m) (hm : m ≤ maxLen) (hD : SlAt w D 2 (la.map acCells)) :
    Calls Try.prog 7 #[cfgV c, .int .i64 top, .slice D m cd] w (Good w) := by
  have HB0 : Hid (Blk (w.alloc (.cells (cfgA c) 24)) w.heap.size 24 (cfgA c)) := Lib.hid (Blk.new _ _ _)
  have HK0 : Hid (Kept (fun _ => False) w (w.alloc (.cells (cfgA c) 24))) := Lib.hid ((Kept.refl _ _).alloc _)
  by_cases hok : c.Ok
  · have HD := Lib.hid (decide_eq_true hok)
    by_cases h30 : 30 < m
    · have hd30 : decide ((30 : Int) < m) = true := decide_eq_true (by omega)
      clear hok hD ha hm h30
      unfold cfgV
      go_enter Try.func7, Try.ntmps7
      go_wp2_with (first
        | (go_at_call 18; ((with_reducible refine (alive10_calls _).mono ?_); rintro e w1 ⟨rfl, hk⟩; have HK1 := Lib.hid (HK0.out.trans hk); have HB1 := Lib.hid (hk.blk HB0.out (fun h => h)); have hl1 := loadCfg_blk HB1.out; clear hk))
        | (go_at_call 10; ((with_reducible refine (right7 c _).mono ?_); rintro e w2 ⟨rfl, hk⟩; rw [HD.out]; have HK2 := Lib.hid (HK1.out.trans hk); clear hk hl1)))
      go_ret
      exact ⟨rfl, HK2.out⟩
    · have hd30 : decide ((30 : Int) < m) = false := decide_eq_false (by omega)
      have HC := Lib.hid hok
      have HLA := Lib.hid ha
      have HDD := Lib.hid hD
      have hm30 : m ≤ 30 := by omega
      obtain ⟨n, hn⟩ : ∃ n : Nat, (n : Int) = c.t := ⟨c.t.toNat, by have := hok.t1; omega⟩
      have HN := Lib.hid hn
      have hn8 : n ≤ 8 := by have := hok.t8; omega
      have hmk := run_make_u64 n (by omega)
      obtain ⟨j0, hj0, jz0, jz1, jz2⟩ := info_parts' infoU64
      rw [hn] at hmk
      obtain ⟨r, hr, er⟩ := andB_bound top 63 (by decide)
      have er' : bits BinOp.and IntKind.i64 top 63 = (r : Int) := er
      have ew : IntKind.u64.wrap (r : Int) = r := IntWalk.u64_in _ (by omega)
      clear hok hD ha hm h30 er hn
      unfold cfgV
      go_enter Try.func7, Try.ntmps7
      go_wp2_with (first
        | (go_at_call 18; ((with_reducible refine (alive10_calls _).mono ?_); rintro e w1 ⟨rfl, hk⟩; have HK1 := Lib.hid (HK0.out.trans hk); have HB1 := Lib.hid (hk.blk HB0.out (fun h => h)); have hl1 := loadCfg_blk HB1.out; clear hk))
        | (go_at_call 10; ((with_reducible refine (right7 c _).mono ?_); rintro e w2 ⟨rfl, hk⟩; rw [HD.out]; have HK2 := Lib.hid (HK1.out.trans hk); have HB2 := Lib.hid (hk.blk HB1.out (fun h => h)); have hl2 := loadCfg_blk HB2.out; clear hk hl1))
        | (go_at_call 19; ((with_reducible refine (ofA c HC.out _).mono ?_); rintro e w3 ⟨rfl, hk⟩; (
            obtain ⟨w4, hst4, hB4, hK4⟩ := stMap10 c w3
            have HB4 := Lib.hid hB4
            have HK4 := Lib.hid ((HK2.out.trans hk).trans hK4)
            have HC4 := Lib.hid (hK4.blk (hk.blk HB2.out (fun h => h)) (fun h => h))
            have ct4 : w4.cell? ⟨w.heap.size, 0, none⟩ = some (.int .i64 c.t) := HC4.out.cell 0
            clear hk hl2 hB4 hK4)))
        | (at_builtin; refine wpList_append_own_at _ rfl (.tmp 37) (.tmp 41) 63 rfl 0 22 j0 _ 1 8 Try.underlying63 hj0 jz0 jz1 jz2 rfl (by decide) (.slice (some ⟨w4.heap.size, 0, none⟩) n n) n (u64L (List.replicate n 0)) rfl ((own_zeros w4 n (by omega)).alloc _) ⟨w4.heap.size + 1, 0, none⟩ 2 2 [.int .u64 r, .int .u64 0] rfl rfl (news_at _ #[.int .u64 r, .int .u64 0] _ _ (by simp)) (by simp [Value.oneCell']) (by unfold maxLen; omega) (by omega) (Nat.zero_le _) ?_; intro v1 w6 hown1 hgrow _ _; obtain ⟨A6, c6, rfl, hS6⟩ := u64_row hown1; (
            have kg : Kept (fun k => k = w4.heap.size) ((w4.alloc (.cells (zerosA n) 22)).alloc (.cells #[.int .u64 r, .int .u64 0] 22)) w6 := (Kept.grown hgrow).mono (fun x _ hx => Option.some.inj hx)
            have hb4 := HB4.out.lt
            have hc4 := HC4.out.lt
            have HR6 : Hid (RL [(w3.heap.size, 31, mapA c), (w.heap.size, 24, cfgA c)] w6) := Lib.hid ((RL.one (kg.blk ((HC4.out.alloc _).alloc _) (by omega))).cons (kg.blk ((HB4.out.alloc _).alloc _) (by omega)))
            have HK6 : Hid (Kept (fun _ => False) w w6) := Lib.hid (Kept.fresh9 ((HK4.out.alloc _).alloc _) kg HK4.out.size)
            have HS6 : Hid (SlAt w6.drew A6 1 ((List.replicate n 0 ++ [(r : Int), 0]).map fun x => [.int .u64 x])) := Lib.hid (hS6.kept ((Kept.refl _ _).drew))
            clear hown1 hgrow hS6 kg hb4 hc4 ct4)))
      have HRZ : Hid (readG c (p0 5) ((List.replicate n 0 ++ [(r : Int), 0]).map outO) 0 = (zP c n r, n + 2)) := Lib.hid (read_zeros HN.out HC.out.t1 (by have := HC.out.bd.l0; omega) r)
      have S6 := Lib.hid (loadMap_arr (HR6.out (w3.heap.size, 31, mapA c) (by simp)).drew rfl)
      go_region_held3 (fun w' => (loadMap ⟨w3.heap.size, 0, none⟩).run Try.prog w' = .ok (.agg (mapA c)) w')
        (with_reducible (first | exact S8.out | exact S7.out | exact S6.out))
        ((first
          | (go_at_call 47; ((with_reducible refine (cellsA (n + 2) (by simp) (by omega) HS6.out).mono ?_); rintro e w7 ⟨A7, c7, rfl, hs7, hk7⟩; (have HR7 := Lib.hid (HR6.out.keep (((Kept.refl _ _).drew).trans hk7)); have S7 := Lib.hid (loadMap_arr (HR7.out (w3.heap.size, 31, mapA c) (by simp)) rfl); have HS7 := Lib.hid hs7; have HK7 := Lib.hid (HK6.out.drew.trans hk7); clear hs7 hk7)))
          | (go_at_call 25; ((with_reducible refine (read_calls (m := n + 2) c HC.out.bd 5 (L := (List.replicate n 0 ++ [(r : Int), 0]).map outO) (by simp) (by omega) HS7.out (out_bd _ (zeros_bd ⟨by omega, by omega⟩))).mono ?_); rw [HRZ.out]; rintro e w8 ⟨B, mb, n2, lv, rfl, h5, hn5, hf5, hk5, ho5⟩; (have H8 : Hid (PoS w8 B mb lv c (zP c n r) n2) := Lib.hid h5; have HR8 := Lib.hid (HR7.out.keep hk5); have S8 := Lib.hid (loadMap_arr (HR8.out (w3.heap.size, 31, mapA c) (by simp)) rfl); have HK8 := Lib.hid (HK7.out.trans hk5); have HO8 := Lib.hid (old_of HK7.out HR7.out ho5); have HT0 : Hid (0 ≤ (zP c n r).nt ∧ (zP c n r).nt ≤ c.b) := Lib.hid hf5.nt; clear h5 hn5 hf5 hk5 ho5)))))
      obtain ⟨T, hT⟩ : ∃ T : Int, min (r : Int) c.b = T := ⟨_, rfl⟩
      have HT1 : Hid (0 ≤ T ∧ T ≤ c.b) := Lib.hid (by have := HC.out.b1; omega)
      have HTn : Hid ((zP c n r).nt = T) := Lib.hid hT
      have HTw : Hid ((zP c n r).wt = T) := Lib.hid hT
      have hm1 := run_mark_eql T 0
      go_wp2_with (first
        | (go_at_call 26; ((with_reducible refine (PY.make H8.out HK8.out HO8.out HR8.out 1000).mono ?_); rintro e w9 ⟨b, rfl, h6⟩; have H9 : Hid (PY [(w3.heap.size, 31, mapA c), (w.heap.size, 24, cfgA c)] w w9 B mb lv c (zP c n r) n2 b 1000 [] 0) := Lib.hid h6; clear h6))
        | (go_at_call 28; ((with_reducible refine (H9.out.settle HC.out.bd HT0.out (by simp [zP, doneP]) (by simp [zP, doneP]) (by decide)).mono ?_); rw [settle_zP]; rintro e w10 ⟨rfl, h8⟩; have H10 : Hid (PY [(w3.heap.size, 31, mapA c), (w.heap.size, 24, cfgA c)] w w10 B mb lv c { zP c n r with sd := true } n2 b 1000 [] 0) := Lib.hid h8; clear h8))
        | (go_at_call 30; ((with_reducible refine (markX H10.out.pool HTn.out rfl).mono ?_); rintro e w11 ⟨rfl, hk⟩; have H11 := Lib.hid (H10.out.keep hk); have H12 := Lib.hid (PY.more (H10.out.keep hk) 83 #[.int .i64 T, .int .i64 0]); clear hk))
        | (go_at_call 31; ((with_reducible refine (H11.out.markS (j := 0) rfl).mono ?_); rintro e w12 ⟨rfl, rfl⟩)))
      go_loopw [60] (fun i wr => BkRel w [(w11.heap.size, 83, #[.int .i64 T, .int .i64 0]), (w3.heap.size, 31, mapA c), (w.heap.size, 24, cfgA c)] B mb lv c { zP c n r with sd := true } n2 b m i wr) (fun i _ => m - (intOf i).toNat)
      case atStart => exact ⟨_, 0, T, 0, [], rfl, rfl, Nat.zero_le _, HT1.out.1, HT1.out.2, Int.le_refl _, by have := HC.out.bd.l0; omega, by
        have h := H12.out
        have e : ({ ({ zP c n r with sd := true } : PoD) with nt := T, nl := 0 } : PoD) = { zP c n r with sd := true } := by rw [← hT]; rfl
        rw [e]
        exact h⟩
      case round =>
        obtain ⟨Wa, k, nt, nl, ps, rfl, rfl, hk, ht0, ht1, hl0, hl1, hS⟩ := hrel
        by_cases hlt : k < m
        · have hd : decide ((k : Int) < m) = true := decide_eq_true (by omega)
          obtain ⟨⟨ak, ab⟩, he⟩ : ∃ e, la[k]? = some e := ⟨_, List.getElem?_eq_getElem (by rw [HLA.out]; exact hlt)⟩
          obtain ⟨gd, gp, eD, hgd, hc⟩ := (HDD.out.kept hS.kept) (by rw [List.length_map, HLA.out]; omega)
          subst eD
          have hcell := hc k (acCells (ak, ab)) (by rw [List.getElem?_map, he]; rfl)
          have c0 : Wa.cell? ⟨gd, gp + k * 2, none⟩ = some (.int .i64 ak) := hcell 0 _ rfl
          have c1 : Wa.cell? ⟨gd, gp + k * 2 + 1, none⟩ = some (.int .i64 ab) := hcell 1 _ rfl
          have HS1 := Lib.hid (PY.more hS 86 #[.int .i64 ak, .int .i64 ab])
          have hb64 := HC.out.bd.b64
          have HTB : Hid (0 ≤ nt ∧ nt ≤ 100000) := Lib.hid ⟨ht0, by omega⟩
          have HLB : Hid (0 ≤ nl ∧ nl ≤ 100000) := Lib.hid ⟨hl0, by have := HC.out.bd.l1; omega⟩
          have HKM : Hid (k ≤ 30) := Lib.hid (by omega)
          clear hcell
          by_cases hak : ak = 0
          · skip
            obtain ⟨nt2, hnt2⟩ : ∃ x, (takeD c 1000 nt ps ab).1 = x := ⟨_, rfl⟩
            obtain ⟨ps2, hps2⟩ : ∃ x, (takeD c 1000 nt ps ab).2 = x := ⟨_, rfl⟩
            obtain ⟨b0, b1⟩ := takeD_bd (c := c) (r := 1000) (ps := ps) (a := ab) ht0
            rw [hnt2] at b0 b1
            have HE2 := Lib.hid (And.intro hnt2 hps2)
            have d1 : decide (nt < nt2) = false := decide_eq_false (by omega)
            have d2 : decide (nl < nl) = false := decide_eq_false (by omega)
            have d3 : decide (nt2 < 0) = false := decide_eq_false (by omega)
            have d4 : decide (c.lim < nl) = false := decide_eq_false (by omega)
            have HBD : Hid (0 ≤ nt2 ∧ nt2 ≤ c.b ∧ 0 ≤ nl ∧ nl ≤ c.lim) := Lib.hid ⟨b0, by omega, hl0, hl1⟩
            have hq : (ak == 0) = true := by simpa using hak
            clear hS hk ht0 ht1 hl0 hl1 b0 b1 hnt2 hps2 hak he hgd hc
            go_wp2_with (first
              | (go_at_call 30; ((with_reducible refine (markX HS1.out.pool rfl rfl).mono ?_); rintro e w5 ⟨rfl, hk⟩; have H5 := Lib.hid (PY.more (HS1.out.keep hk) 83 #[.int .i64 nt, .int .i64 nl]); have q0 := Blk.cell (PY.blk (x := (Wa.heap.size, 86, #[.int .i64 ak, .int .i64 ab])) H5.out (by simp)) 0; have q1 := Blk.cell (PY.blk (x := (Wa.heap.size, 86, #[.int .i64 ak, .int .i64 ab])) H5.out (by simp)) 1; clear hk))
              | (go_at_call 32; ((with_reducible refine (H5.out.take HC.out.bd ab HTB.out (by have := HKM.out; omega)).mono ?_); rintro e w6 ⟨rfl, h⟩; have H6 : Hid (PX _ _ w w6 B mb lv c { ({ zP c n r with sd := true } : PoD) with nt := nt2, nl := nl } n2 b 1000 ps2 (9 * (k + 1))) := Lib.hid (by rw [← HE2.out.1, ← HE2.out.2]; exact h); clear h))
              | (go_at_call 30; ((with_reducible refine (markX H6.out.pool rfl rfl).mono ?_); rintro e w7 ⟨rfl, hk⟩; have H7 := Lib.hid ((PY.more (H6.out.keep hk) 83 #[.int .i64 nt2, .int .i64 nl]).keep ((Kept.refl _ _).drew)); clear hk)))
            have S0 := Lib.hid (bk_S (H := H7.out) (ma := w7.heap.size) (mb' := w5.heap.size) (gm := w3.heap.size) (a0 := nt2) (a1 := nl) (b0 := nt) (b1 := nl) (by simp) (by simp) (by simp))
            go_region_held3 (fun w' => w'.cell? ⟨w7.heap.size, 0, none⟩ = some (.int .i64 nt2) ∧ w'.cell? ⟨w7.heap.size, 1, none⟩ = some (.int .i64 nl) ∧ w'.cell? ⟨w5.heap.size, 0, none⟩ = some (.int .i64 nt) ∧ w'.cell? ⟨w5.heap.size, 1, none⟩ = some (.int .i64 nl) ∧ (loadMap ⟨w3.heap.size, 0, none⟩).run Try.prog w' = .ok (.agg (mapA c)) w')
              (with_reducible (first | exact S1.out | exact S0.out))
              ((go_at_call 50; (with_reducible refine (limK_calls c HC.out.bd _).mono ?_); rintro e w8 ⟨rfl, hk⟩; (have H8b := Lib.hid (H7.out.keep hk); have S1 := Lib.hid (bk_S (H := H8b.out) (ma := w7.heap.size) (mb' := w5.heap.size) (gm := w3.heap.size) (a0 := nt2) (a1 := nl) (b0 := nt) (b1 := nl) (by simp) (by simp) (by simp)); clear hk)))
            go_wp2_with fail
            first | exact ⟨⟨_, k + 1, nt2, nl, ps2, rfl, by simp, hlt, HBD.out.1, HBD.out.2.1, HBD.out.2.2.1, HBD.out.2.2.2, PY.sub H8b.out (by simp)⟩, by simp [intOf]; omega⟩ | (go_roundw; (case rel => exact ⟨_, k + 1, nt2, nl, ps2, rfl, by simp, hlt, HBD.out.1, HBD.out.2.1, HBD.out.2.2.1, HBD.out.2.2.2, PY.sub H8b.out (by simp)⟩); (case measure => simp [intOf]; omega))
          · skip
            obtain ⟨nl2, hnl2⟩ : ∃ x, (giveD c 1000 nl ps ab).1 = x := ⟨_, rfl⟩
            obtain ⟨ps2, hps2⟩ : ∃ x, (giveD c 1000 nl ps ab).2 = x := ⟨_, rfl⟩
            obtain ⟨b0, b1⟩ := giveD_bd (c := c) (r := 1000) (ps := ps) (a := ab) hl1
            rw [hnl2] at b0 b1
            have HE2 := Lib.hid (And.intro hnl2 hps2)
            have d1 : decide (nt < nt) = false := decide_eq_false (by omega)
            have d2 : decide (nl2 < nl) = false := decide_eq_false (by omega)
            have d3 : decide (nt < 0) = false := decide_eq_false (by omega)
            have d4 : decide (c.lim < nl2) = false := decide_eq_false (by omega)
            have HBD : Hid (0 ≤ nt ∧ nt ≤ c.b ∧ 0 ≤ nl2 ∧ nl2 ≤ c.lim) := Lib.hid ⟨ht0, ht1, by omega, b1⟩
            have hq : (ak == 0) = false := by simpa using hak
            clear hS hk ht0 ht1 hl0 hl1 b0 b1 hnl2 hps2 hak he hgd hc
            go_wp2_with (first
              | (go_at_call 30; ((with_reducible refine (markX HS1.out.pool rfl rfl).mono ?_); rintro e w5 ⟨rfl, hk⟩; have H5 := Lib.hid (PY.more (HS1.out.keep hk) 83 #[.int .i64 nt, .int .i64 nl]); have q0 := Blk.cell (PY.blk (x := (Wa.heap.size, 86, #[.int .i64 ak, .int .i64 ab])) H5.out (by simp)) 0; have q1 := Blk.cell (PY.blk (x := (Wa.heap.size, 86, #[.int .i64 ak, .int .i64 ab])) H5.out (by simp)) 1; clear hk))
              | (go_at_call 34; ((with_reducible refine (H5.out.give HC.out.bd ab HLB.out (by have := HKM.out; omega)).mono ?_); rintro e w6 ⟨rfl, h⟩; have H6 : Hid (PX _ _ w w6 B mb lv c { ({ zP c n r with sd := true } : PoD) with nt := nt, nl := nl2 } n2 b 1000 ps2 (9 * (k + 1))) := Lib.hid (by rw [← HE2.out.1, ← HE2.out.2]; exact h.morek 7); clear h))
              | (go_at_call 30; ((with_reducible refine (markX H6.out.pool rfl rfl).mono ?_); rintro e w7 ⟨rfl, hk⟩; have H7 := Lib.hid ((PY.more (H6.out.keep hk) 83 #[.int .i64 nt, .int .i64 nl2]).keep ((Kept.refl _ _).drew)); clear hk)))
            have S0 := Lib.hid (bk_S (H := H7.out) (ma := w7.heap.size) (mb' := w5.heap.size) (gm := w3.heap.size) (a0 := nt) (a1 := nl2) (b0 := nt) (b1 := nl) (by simp) (by simp) (by simp))
            go_region_held3 (fun w' => w'.cell? ⟨w7.heap.size, 0, none⟩ = some (.int .i64 nt) ∧ w'.cell? ⟨w7.heap.size, 1, none⟩ = some (.int .i64 nl2) ∧ w'.cell? ⟨w5.heap.size, 0, none⟩ = some (.int .i64 nt) ∧ w'.cell? ⟨w5.heap.size, 1, none⟩ = some (.int .i64 nl) ∧ (loadMap ⟨w3.heap.size, 0, none⟩).run Try.prog w' = .ok (.agg (mapA c)) w')
              (with_reducible (first | exact S1.out | exact S0.out))
              ((go_at_call 50; (with_reducible refine (limK_calls c HC.out.bd _).mono ?_); rintro e w8 ⟨rfl, hk⟩; (have H8b := Lib.hid (H7.out.keep hk); have S1 := Lib.hid (bk_S (H := H8b.out) (ma := w7.heap.size) (mb' := w5.heap.size) (gm := w3.heap.size) (a0 := nt) (a1 := nl2) (b0 := nt) (b1 := nl) (by simp) (by simp) (by simp)); clear hk)))
            go_wp2_with fail
            first | exact ⟨⟨_, k + 1, nt, nl2, ps2, rfl, by simp, hlt, HBD.out.1, HBD.out.2.1, HBD.out.2.2.1, HBD.out.2.2.2, PY.sub H8b.out (by simp)⟩, by simp [intOf]; omega⟩ | (go_roundw; (case rel => exact ⟨_, k + 1, nt, nl2, ps2, rfl, by simp, hlt, HBD.out.1, HBD.out.2.1, HBD.out.2.2.1, HBD.out.2.2.2, PY.sub H8b.out (by simp)⟩); (case measure => simp [intOf]; omega))
        · obtain rfl : k = m := by omega
          have HS := Lib.hid hS
          have hb64 := HC.out.bd.b64
          have HKM : Hid (k ≤ 30) := Lib.hid (by omega)
          have q0 := Blk.cell (PY.blk (x := (w11.heap.size, 83, #[.int .i64 T, .int .i64 0])) hS (by simp)) 0
          have q1 := Blk.cell (PY.blk (x := (w11.heap.size, 83, #[.int .i64 T, .int .i64 0])) hS (by simp)) 1
          have HE0 : Hid (endD c 1000 ({ ({ zP c n r with sd := true } : PoD) with nt := T, nl := 0 } : PoD) [] = []) := Lib.hid (by
            unfold endD
            rw [if_neg (show ¬ (T ≠ (zP c n r).wt) from fun h => h HTw.out.symm)]
            exact if_neg (show ¬ ((0 : Int) ≠ 0) from fun h => h rfl))
          have HP1 : Hid ((zP c n r).nt = T ∧ (zP c n r).wt = T) := Lib.hid ⟨HTn.out, HTw.out⟩
          clear hS hk ht0 ht1 hl0 hl1 hlt
          go_wp2_with (first
            | (go_at_call 36; ((with_reducible refine (backP_calls HS.out.pool HC.out.bd T 0).mono ?_); rintro e w13 ⟨rfl, hp, hk⟩; have H13 : Hid (PX _ _ w w13 B mb lv c { ({ zP c n r with sd := true } : PoD) with nt := T, nl := 0 } n2 b 1000 ps (9 * k)) := Lib.hid (HS.out.turn (by
                have e1 : min (max T 0) c.b = T := by have := HT1.out; omega
                have e2 : min (max (0 : Int) 0) c.lim = 0 := by have := HC.out.bd.l0; omega
                rw [e1, e2] at hp
                exact hp) hk); clear hp hk))
            | (go_at_call 37; ((with_reducible refine (H13.out.back (by have := HKM.out; omega) 0).mono ?_); rintro e w14 ⟨rfl, h⟩; have H14 : Hid (PX _ _ w w14 B mb lv c { ({ zP c n r with sd := true } : PoD) with nt := T, nl := 0 } n2 b 1000 [] (9 * k)) := Lib.hid (by simpa using h); clear h))
            | (go_at_call 44; ((with_reducible refine (H14.out.fin HC.out.bd ⟨HT1.out.1, by have := HT1.out.2; show T ≤ 100000; omega⟩ ⟨Int.le_refl _, by show (0 : Int) ≤ 100000; decide⟩ (by have := HKM.out; omega)).mono ?_); rintro e w15 ⟨rfl, h⟩; rw [HE0.out] at h; have H15 := Lib.hid h; clear h)))
          have H16 := Lib.hid (H15.out.keep ((Kept.refl _ _).drew))
          have S0 := Lib.hid (bk_T H16.out (ma := w11.heap.size) (gc := w.heap.size) (a0 := T) (a1 := 0) (by simp) (by simp))
          go_region_held3 (fun w' => w'.cell? ⟨w11.heap.size, 0, none⟩ = some (.int .i64 T) ∧ w'.cell? ⟨w11.heap.size, 1, none⟩ = some (.int .i64 0) ∧ w'.cell? ⟨w.heap.size, 1, none⟩ = some (.int .i64 c.b))
            (with_reducible (first | exact S1.out | exact S0.out))
            ((first
              | (go_at_call 51; ((with_reducible refine (H16.out.lenS (j := 0) rfl).mono ?_); rintro e w17 ⟨rfl, rfl⟩))
              | (go_at_call 30; ((with_reducible refine (markX H16.out.pool rfl rfl).mono ?_); rintro e w18 ⟨rfl, hk⟩; (have H18 := Lib.hid (H16.out.keep hk); have S1 := Lib.hid (bk_T H18.out (ma := w11.heap.size) (gc := w.heap.size) (a0 := T) (a1 := 0) (by simp) (by simp)); clear hk)))))
          go_wp2_with fail
          go_ret
          exact ⟨rfl, H18.out.kept⟩
  · have HD := Lib.hid (decide_eq_false hok)
    clear hok hD ha hm
    unfold cfgV
    go_enter Try.func7, Try.ntmps7
    go_wp2_with (first
      | (go_at_call 18; ((with_reducible refine (alive10_calls _).mono ?_); rintro e w1 ⟨rfl, hk⟩; have HK1 := Lib.hid (HK0.out.trans hk); have HB1 := Lib.hid (hk.blk HB0.out (fun h => h)); have hl1 := loadCfg_blk HB1.out; clear hk))
      | (go_at_call 10; ((with_reducible refine (right7 c _).mono ?_); rintro e w2 ⟨rfl, hk⟩; rw [HD.out]; have HK2 := Lib.hid (HK1.out.trans hk); clear hk hl1)))
    go_ret
    exact ⟨rfl, HK2.out⟩
theorem back10_walk (c : CfgD) (top : Int) (D : Option Addr) (m cd : Nat) (la : List (Int × Int)) (w : World) (h1 : Int64 top)
    (ha : la.length = m) (hm : m ≤ maxLen) (hD : SlAt w D 2 (la.map fun x => [.int .i64 x.1, .int .i64 x.2])) (_ : ∀ e ∈ la, I64 e.1 ∧ I64 e.2) :
    Calls Try.prog 7 #[cfgV c, .int .i64 top, .slice D m cd] w (Good w) := back10_law c top D m cd la w h1 ha hm hD
end Go.Proofs.Ythjkodjpopcjaaa
