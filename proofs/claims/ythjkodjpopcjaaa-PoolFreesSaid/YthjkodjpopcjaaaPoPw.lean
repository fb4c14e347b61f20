/- PoolCounts: the law's walk. -/
import Derived.Test.YthjkodjpopcjaaaPoQ
namespace Go.Proofs.Ythjkodjpopcjaaa
open Go.RowKit Go.Maps
attribute [local go_sem ↓] loadMap_eq stMap_eq loadCfg_eq

/-- What is watched over: two blocks, and a map of what was seen. -/
def CG (L : BlkL) (h : Nat) (x : Nat) : Prop := GL L x ∨ x = h
def CR (L : BlkL) (h k : Nat) (W : World) : Prop := RL L W ∧ SeenM W h k
theorem CR.stays (L : BlkL) (h k : Nat) (a d : World) (hr : CR L h k a) (kk : Kept (fun x => ¬ CG L h x) a d) : CR L h k d :=
  ⟨RL.stays L a d hr.1 (kk.mono (fun x _ hn g => hn (.inl g))), hr.2.kept kk (fun hn => hn (.inr rfl))⟩
/-- The loop that takes. -/
def CtRel (w : World) (L : BlkL) (h : Nat) (B mb : Nat) (lv : Value) (c : CfgD) (p : PoD) (n b T : Nat) (i : Value) (wr : World) : Prop :=
  ∃ (W : World) (k : Nat), W = wr ∧ i = .int .i64 k ∧ k ≤ T ∧ PX (CG L h) (CR L h k) w W B mb lv c { p with nt := (T : Int) - k } n b 500 (ctP c 500 k) (9 * k)
/-- The loop that lets go. -/
def CuRel (w : World) (L : BlkL) (h : Nat) (B mb : Nat) (lv : Value) (c : CfgD) (p : PoD) (n b T g : Nat) (i : Value) (wr : World) : Prop :=
  ∃ (W : World) (k : Nat) (ps : List (Int × Int)), W = wr ∧ i = .int .i64 k ∧ k ≤ g ∧ PX (CG L h) (CR L h T) w W B mb lv c { p with nt := 0, nl := min (k : Int) c.lim } n b 500 ps (72 + 2 * k)
theorem run_mark_neq (a b : Int) (W : World) : (binOp .neq 83 (.agg #[.int .i64 a, .int .i64 b]) (.agg #[.int .i64 a, .int .i64 b])).run Try.prog W = .ok (.bool false) W := by simp [go_sem]
theorem topX {w : World} {B mb n : Nat} {lv : Value} {c : CfgD} {p : PoD} (h : PoS w B mb lv c p n) (hc : c.Bd) (hn : 0 ≤ p.nt ∧ p.nt ≤ 100000) {a : Int} {b : Bool} (e : p.top c = (a, b)) : Calls Try.prog 39 #[.pointer (some ⟨B, 0, none⟩)] w fun e w' => e = .returned (.tuple #[.int .i64 a, .bool b]) ∧ Kept (fun _ => False) w w' :=
  (topP_calls h hc hn).mono fun _ _ ⟨h1, h2⟩ => ⟨by rw [h1, e], h2⟩
theorem whatX {c : CfgD} (hc : c.Bd) {k i j : Int} (h : c.at_ k i j ≠ -1) (w : World) : Calls Try.prog 52 #[.agg (mapA c), .int .i64 (c.at_ k i j)] w fun e w' => e = .returned (.tuple #[.int .i64 k, .int .i64 i, .int .i64 j]) ∧ Kept (fun _ => False) w w' :=
  (what_calls c hc (c.at_ k i j) (at_i64 hc _ _ _) w).mono fun _ _ ⟨h1, h2⟩ => ⟨by rw [h1, at_what hc h], h2⟩
theorem PX.takeX {G : Nat → Prop} {R : World → Prop} {w0 w : World} {B mb : Nat} {lv : Value} {c : CfgD} {p : PoD} {n b : Nat} {r : Int} {ps : List (Int × Int)} {k : Nat} (h : PX G R w0 w B mb lv c p n b r ps k) (hc : c.Bd) (a : Int) (hn : 0 ≤ p.nt ∧ p.nt ≤ 100000) (hk : k ≤ 59980) {x : Int} {y : List (Int × Int)} {p' : PoD} (e : takeD c r p.nt ps a = (x, y)) (hp : { p with nt := x } = p') :
    Calls Try.prog 32 #[.pointer (some ⟨B, 0, none⟩), .pointer (some ⟨b, 0, none⟩), .int .i64 a] w fun e w' => e = .returned (.tuple #[]) ∧ PX G R w0 w' B mb lv c p' n b r y (k + 9) := by
  subst hp
  have := h.take hc a hn hk
  rw [e] at this
  exact this
theorem PX.giveX {G : Nat → Prop} {R : World → Prop} {w0 w : World} {B mb : Nat} {lv : Value} {c : CfgD} {p : PoD} {n b : Nat} {r : Int} {ps : List (Int × Int)} {k : Nat} (h : PX G R w0 w B mb lv c p n b r ps k) (hc : c.Bd) (a : Int) (hn : 0 ≤ p.nl ∧ p.nl ≤ 100000) (hk : k ≤ 59980) {x : Int} {y : List (Int × Int)} {p' : PoD} (e : giveD c r p.nl ps a = (x, y)) (hp : { p with nl := x } = p') :
    Calls Try.prog 34 #[.pointer (some ⟨B, 0, none⟩), .pointer (some ⟨b, 0, none⟩), .int .i64 a] w fun e w' => e = .returned (.tuple #[]) ∧ PX G R w0 w' B mb lv c p' n b r y (k + 2) := by
  subst hp
  have := h.give hc a hn hk
  rw [e] at this
  exact this
set_option maxRecDepth 100000 in
set_option maxHeartbeats 2000000 in
theorem counts_law (c : CfgD) (top give : Int) (w : World) (_h1 : Int64 top) (_h2 : Int64 give) :
    Calls Try.prog 8 #[cfgV c, .int .i64 top, .int .i64 give] w (Good w) := by
  have HB0 : Hid (Blk (w.alloc (.cells (cfgA c) 24)) w.heap.size 24 (cfgA c)) := Lib.hid (Blk.new _ _ _)
  have HK0 : Hid (Kept (fun _ => False) w (w.alloc (.cells (cfgA c) 24))) := Lib.hid ((Kept.refl _ _).alloc _)
  by_cases hok : c.Ok
  · have HD := Lib.hid (decide_eq_true hok)
    by_cases h30 : 8 < c.b
    · have hd30 : decide (8 < c.b) = true := decide_eq_true h30
      clear hok h30
      unfold cfgV
      go_enter Try.func8, Try.ntmps8
      go_wp2_with (first
        | (go_at_call 18; ((with_reducible refine (alive10_calls _).mono ?_); rintro e w1 ⟨rfl, hk⟩; have HK1 := Lib.hid (HK0.out.trans hk); have HB1 := Lib.hid (hk.blk HB0.out (fun h => h)); have hl1 := loadCfg_blk HB1.out; clear hk))
        | (go_at_call 10; ((with_reducible refine (right7 c _).mono ?_); rintro e w2 ⟨rfl, hk⟩; rw [HD.out]; have HK2 := Lib.hid (HK1.out.trans hk); have cb2 : w2.cell? ⟨w.heap.size, 1, none⟩ = some (.int .i64 c.b) := (hk.blk HB1.out (fun h => h)).cell 1; clear hk hl1)))
      go_ret
      exact ⟨rfl, HK2.out⟩
    · have hd30 : decide (8 < c.b) = false := decide_eq_false h30
      have HC := Lib.hid hok
      have hcb : 1 ≤ c.b ∧ c.b ≤ 8 := ⟨hok.b1, by omega⟩
      have HCB := Lib.hid hcb
      obtain ⟨n, hn⟩ : ∃ n : Nat, (n : Int) = c.t := ⟨c.t.toNat, by have := hok.t1; omega⟩
      have HN := Lib.hid hn
      have hn8 : n ≤ 8 := by have := hok.t8; omega
      have hmk := run_make_u64 n (by omega)
      obtain ⟨j0, hj0, jz0, jz1, jz2⟩ := info_parts' infoU64
      rw [hn] at hmk
      obtain ⟨r, hr, er⟩ := andB_bound top 15 (by decide)
      have er' : bits BinOp.and IntKind.i64 top 15 = (r : Int) := er
      have ec : IntKind.i64.wrap (c.b + 1) = c.b + 1 := IntWalk.i64_in _ (by omega)
      have hne : ¬ c.b + 1 = 0 := by omega
      have q0 : 0 ≤ (r : Int) % (c.b + 1) := Int.emod_nonneg _ (by omega)
      have q1 : (r : Int) % (c.b + 1) < c.b + 1 := Int.emod_lt_of_pos _ (by omega)
      obtain ⟨T, hT⟩ : ∃ T : Nat, (r : Int) % (c.b + 1) = T := ⟨((r : Int) % (c.b + 1)).toNat, by omega⟩
      have hmod : (r : Int).tmod (c.b + 1) = T := (Int.tmod_eq_emod_of_nonneg (by omega)).trans hT
      have HT8 : Hid ((T : Int) ≤ c.b ∧ T ≤ 8) := Lib.hid ⟨by omega, by omega⟩
      have ew : IntKind.u64.wrap (T : Int) = T := IntWalk.u64_in _ (by omega)
      clear hok h30 er hn q0 q1 hT hcb
      unfold cfgV
      go_enter Try.func8, Try.ntmps8
      go_wp2_with (first
        | (go_at_call 18; ((with_reducible refine (alive10_calls _).mono ?_); rintro e w1 ⟨rfl, hk⟩; have HK1 := Lib.hid (HK0.out.trans hk); have HB1 := Lib.hid (hk.blk HB0.out (fun h => h)); have hl1 := loadCfg_blk HB1.out; clear hk))
        | (go_at_call 10; ((with_reducible refine (right7 c _).mono ?_); rintro e w2 ⟨rfl, hk⟩; rw [HD.out]; have HK2 := Lib.hid (HK1.out.trans hk); have HB2 := Lib.hid (hk.blk HB1.out (fun h => h)); have hl2 := loadCfg_blk HB2.out; have cb2 : w2.cell? ⟨w.heap.size, 1, none⟩ = some (.int .i64 c.b) := HB2.out.cell 1; clear hk hl1))
        | (go_at_call 19; ((with_reducible refine (ofA c HC.out _).mono ?_); rintro e w3 ⟨rfl, hk⟩; (
            obtain ⟨w4, hst4, hB4, hK4⟩ := stMap10 c w3
            have HB4 := Lib.hid hB4
            have HK4 := Lib.hid ((HK2.out.trans hk).trans hK4)
            have HC4 := Lib.hid (hK4.blk (hk.blk HB2.out (fun h => h)) (fun h => h))
            have ct4 : w4.cell? ⟨w.heap.size, 0, none⟩ = some (.int .i64 c.t) := HC4.out.cell 0
            clear hk hl2 hB4 hK4))))
      have HR4a : Hid (RL [(w3.heap.size, 31, mapA c), (w.heap.size, 24, cfgA c)] (World.drew (w4.alloc (.cells (zerosA n) 22)))) := Lib.hid (((RL.one HC4.out).cons HB4.out).keep (((Kept.refl _ _).alloc _).drew))
      have S4 := Lib.hid (loadMap_arr (HR4a.out (w3.heap.size, 31, mapA c) (by simp)) rfl)
      have S4a := Lib.hid (loadMap_arr ((((RL.one HC4.out).cons HB4.out).keep ((((Kept.refl _ _).alloc (.cells (zerosA n) 22)).alloc (.cells #[.int .u64 T, .int .u64 0] 22)).drew)) (w3.heap.size, 31, mapA c) (by simp)) rfl)
      have HRZ : Hid (readG c (p0 5) ((List.replicate n 0 ++ [(T : Int), 0]).map outO) 0 = (zP c n T, n + 2)) := Lib.hid (read_zeros HN.out HC.out.t1 (by have := HC.out.bd.l0; omega) T)
      go_region_held3 (fun w' => (loadMap ⟨w3.heap.size, 0, none⟩).run Try.prog w' = .ok (.agg (mapA c)) w')
        (with_reducible (first | exact S8.out | exact S7.out | exact S6.out | exact S4a.out | exact S4.out))
        ((first
          | (refine step_append_lies _ rfl (.tmp 51) (.tmp 54) 63 rfl 0 22 j0 _ 1 8 Try.underlying63 hj0 jz0 jz1 jz2 rfl (by decide) (.slice (some ⟨w4.heap.size, 0, none⟩) n n) n (u64L (List.replicate n 0)) rfl ((own_zeros w4 n (by omega)).alloc _).drew ⟨w4.heap.size + 1, 0, none⟩ 2 2 [.int .u64 T, .int .u64 0] rfl rfl (news_at _ #[.int .u64 T, .int .u64 0] _ _ (by simp)) (by simp [Value.oneCell']) (by decide) (by unfold maxLen; omega) (by omega) (Nat.zero_le _) _ rfl ?_; intro g6 c6 w6 hown1 hgrow _ _; obtain ⟨A6, c6', e6, hS6⟩ := u64_row hown1; injection e6 with e6 _ e6c; subst e6 e6c; (
            have kg : Kept (fun k => k = w4.heap.size) (World.drew ((w4.alloc (.cells (zerosA n) 22)).alloc (.cells #[.int .u64 T, .int .u64 0] 22))) w6 := (Kept.grown hgrow).mono (fun x _ hx => Option.some.inj hx)
            have hb4 := HB4.out.lt
            have hc4 := HC4.out.lt
            have HR6 : Hid (RL [(w3.heap.size, 31, mapA c), (w.heap.size, 24, cfgA c)] w6) := Lib.hid ((RL.one (kg.blk ((HC4.out.alloc _).alloc _).drew (by omega))).cons (kg.blk ((HB4.out.alloc _).alloc _).drew (by omega)))
            have HK6 : Hid (Kept (fun _ => False) w w6) := Lib.hid (Kept.fresh9 ((HK4.out.alloc _).alloc _).drew kg HK4.out.size)
            have S6 := Lib.hid (loadMap_arr (HR6.out (w3.heap.size, 31, mapA c) (by simp)) rfl)
            have HS6 := Lib.hid hS6
            clear hown1 hgrow hS6 kg hb4 hc4))
          | (go_at_call 47; ((with_reducible refine (cellsA (n + 2) (by simp) (by omega) HS6.out).mono ?_); rintro e w7 ⟨A7, c7, rfl, hs7, hk7⟩; (have HR7 := Lib.hid (HR6.out.keep hk7); have S7 := Lib.hid (loadMap_arr (HR7.out (w3.heap.size, 31, mapA c) (by simp)) rfl); have HS7 := Lib.hid hs7; have HK7 := Lib.hid (HK6.out.trans hk7); clear hs7 hk7)))
          | (go_at_call 25; ((with_reducible refine (read_calls (m := n + 2) c HC.out.bd 5 (L := (List.replicate n 0 ++ [(T : Int), 0]).map outO) (by simp) (by omega) HS7.out (out_bd _ (zeros_bd ⟨by omega, by have := HT8.out; omega⟩))).mono ?_); rw [HRZ.out]; rintro e w8 ⟨B, mb, n2, lv, rfl, h5, hn5, hf5, hk5, ho5⟩; (have H8 : Hid (PoS w8 B mb lv c (zP c n T) n2) := Lib.hid h5; have HR8 := Lib.hid (HR7.out.keep hk5); have S8 := Lib.hid (loadMap_arr (HR8.out (w3.heap.size, 31, mapA c) (by simp)) rfl); have HK8 := Lib.hid (HK7.out.trans hk5); have HO8 := Lib.hid (old_of HK7.out HR7.out ho5); have HT0 : Hid (0 ≤ (zP c n T).nt ∧ (zP c n T).nt ≤ c.b) := Lib.hid hf5.nt; clear h5 hn5 hf5 hk5 ho5)))))
      have hmm := @run_makeMap Try.prog
      have HTm : Hid (min (T : Int) c.b = T) := Lib.hid (by have := HT8.out; omega)
      have HTz : Hid (({ ({ zP c n T with sd := true } : PoD) with nt := (T : Int) - (0 : Nat) } : PoD) = { zP c n T with sd := true }) := Lib.hid (by
        show (⟨5, 3, 0, 1, _, _, _, _, _, (T : Int) - ((0 : Nat) : Int), _⟩ : PoD) = ⟨5, 3, 0, 1, _, _, _, _, _, min (T : Int) c.b, _⟩
        rw [HTm.out, show (T : Int) - ((0 : Nat) : Int) = T by omega])
      go_wp2_with (first
        | (go_at_call 26; ((with_reducible refine (PY.make H8.out HK8.out HO8.out HR8.out 500).mono ?_); rintro e w9 ⟨b, rfl, h6⟩; have H9 : Hid (PY [(w3.heap.size, 31, mapA c), (w.heap.size, 24, cfgA c)] w w9 B mb lv c (zP c n T) n2 b 500 [] 0) := Lib.hid h6; clear h6))
        | (go_at_call 28; ((with_reducible refine (H9.out.settle HC.out.bd HT0.out (by simp [zP, doneP]) (by simp [zP, doneP]) (by decide)).mono ?_); rw [settle_zP]; rintro e w10 ⟨rfl, h8⟩; have H10 : Hid (PY [(w3.heap.size, 31, mapA c), (w.heap.size, 24, cfgA c)] w w10 B mb lv c { zP c n T with sd := true } n2 b 500 [] 0) := Lib.hid h8; clear h8)))
      have H11 : Hid (PX (CG [(w3.heap.size, 31, mapA c), (w.heap.size, 24, cfgA c)] w10.heap.size) (CR [(w3.heap.size, 31, mapA c), (w.heap.size, 24, cfgA c)] w10.heap.size 0) w (w10.alloc (.map #[] 0)) B mb lv c { zP c n T with sd := true } n2 b 500 [] 0) := Lib.hid (H10.out.watch (.map #[] 0) (fun W => SeenM W w10.heap.size 0) (SeenM.made w10) (fun a d _ hs kk => hs.kept kk (fun hn => hn (.inr rfl))))
      go_loopw [66] (fun i wr => CtRel w [(w3.heap.size, 31, mapA c), (w.heap.size, 24, cfgA c)] w10.heap.size B mb lv c { zP c n T with sd := true } n2 b T i wr) (fun i _ => T - (intOf i).toNat)
      case atStart => exact ⟨_, 0, rfl, rfl, Nat.zero_le _, by rw [HTz.out]; exact H11.out⟩
      case round =>
        obtain ⟨Wa, k, rfl, rfl, hk, hS⟩ := hrel
        have HT' := HT8
        have HHL : Hid (∀ e ∈ [(w3.heap.size, 31, mapA c), (w.heap.size, 24, cfgA c)], e.1 < w10.heap.size) := Lib.hid (fun e he => (H10.out.holds e he).lt)
        have HHW : Hid (w.heap.size ≤ w10.heap.size) := Lib.hid H10.out.kept.size
        by_cases hlt : k < T
        · have hd : decide ((k : Int) < T) = true := decide_eq_true (by omega)
          have HS := Lib.hid hS
          have HKT : Hid (k < T) := Lib.hid hlt
          have HKB : Hid ((k : Int) < c.b) := Lib.hid (by have := HT8.out; omega)
          have HTO : Hid (({ ({ zP c n T with sd := true } : PoD) with nt := (T : Int) - k } : PoD).top c = (c.at_ 13 ((T : Int) - k - 1) 0, true)) := Lib.hid (by unfold PoD.top; rw [if_neg (show ¬ ((T : Int) - k = 0) by omega)])
          have HTK0 := ct_take (c := c) (r := 500) (nt := (T : Int) - k) (k := k) (by omega) HKB.out
          obtain ⟨pk, hpk⟩ : ∃ q, ({ ({ zP c n T with sd := true } : PoD) with nt := (T : Int) - k - 1 } : PoD) = q := ⟨_, rfl⟩
          have HPK : Hid (({ ({ ({ zP c n T with sd := true } : PoD) with nt := (T : Int) - k } : PoD) with nt := (T : Int) - k - 1 } : PoD) = pk) := Lib.hid hpk
          obtain ⟨cp, hcp⟩ : ∃ q, ctP c 500 (k + 1) = q := ⟨_, rfl⟩
          have HCP := Lib.hid hcp
          have hgv : getV (ctP c 500 (k + 1)) (c.at_ 11 (k : Int) 0) = .tuple #[.int .u64 1, .bool true] := by unfold getV; rw [ct_look HC.out.bd HKB.out (by have := HT8.out; omega)]; rfl
          rw [hcp] at HTK0 hgv
          have HTK := Lib.hid HTK0
          have HGV := Lib.hid hgv
          clear hgv HTK0 hcp
          have hl0 := loadMap_arr (hS.holds.1 (w3.heap.size, 31, mapA c) (by simp)) rfl
          have e90 : IntKind.i64.wrap ((T : Int) - 1) = T - 1 := IntWalk.i64_in _ (by have := HT8.out; omega)
          have e92 : IntKind.i64.wrap ((T : Int) - 1 - k) = (T : Int) - 1 - k := IntWalk.i64_in _ (by have := HT8.out; omega)
          have ek : IntKind.i64.wrap ((k : Int) + 1) = k + 1 := IntWalk.i64_in _ (by have := HT8.out; omega)
          have h93 : ((T : Int) - k - 1 != (T : Int) - 1 - k) = false := by simp; omega
          replace hpk := Lib.hid hpk
          clear hS hk
          go_wp2_with (first
            | (go_at_call 39; ((with_reducible refine (topX HS.out.pool HC.out.bd (by have := HKT.out; have := HT8.out; show 0 ≤ (T : Int) - k ∧ (T : Int) - k ≤ 100000; omega) HTO.out).mono ?_); rintro e w11 ⟨rfl, hk⟩; have H12 := Lib.hid (HS.out.keep hk); have hl12 := loadMap_arr (H12.out.holds.1 (w3.heap.size, 31, mapA c) (by simp)) rfl; clear hk hl0))
            | (go_at_call 52; ((with_reducible refine (whatX HC.out.bd (k := 13) (i := (T : Int) - k - 1) (j := 0) (at13n HC.out.bd (by have := HKT.out; have := HT8.out; omega)) _).mono ?_); rintro e w13 ⟨rfl, hk⟩; have H13 := Lib.hid (H12.out.keep hk); clear hk hl12))
            | (go_at_call 32; ((with_reducible refine (H13.out.takeX HC.out.bd (k : Int) (by have := HKT.out; have := HT8.out; show 0 ≤ (T : Int) - k ∧ (T : Int) - k ≤ 100000; omega) (by have := HKT.out; have := HT8.out; omega) HTK.out HPK.out).mono ?_); rintro e w14 ⟨rfl, h⟩; (
                have h14 := h.holds.2.look (by have := HKT.out; have := HT8.out; omega)
                obtain ⟨w15, hst15, hs15, hk15⟩ := h.holds.2.set (by have := HKT.out; have := HT8.out; omega)
                have H14 := Lib.hid h
                have hr15 : CR [(w3.heap.size, 31, mapA c), (w.heap.size, 24, cfgA c)] w10.heap.size (k + 1) w15 := ⟨fun e he => hk15.blk (H14.out.holds.1 e he) (fun e' => by have := HHL.out e he; omega), hs15⟩
                have H15 := Lib.hid (H14.out.turnR hk15 (fun x e => ⟨.inr e, by rw [e]; exact HHW.out⟩) hr15 (CR.stays _ _ _))
                have hl15 := loadMap_arr (H15.out.holds.1 (w3.heap.size, 31, mapA c) (by simp)) rfl
                clear h hs15 hk15 hr15)))
            | (go_at_call 49; ((with_reducible refine (atK_calls c HC.out.bd 11 _ 0 _).mono ?_); rintro e w16 ⟨rfl, hk⟩; have H16 := Lib.hid (H15.out.keep hk); clear hk hl15))
            | (go_at_call 48; ((with_reducible refine (H16.out.get _ (at_i64 HC.out.bd _ _ _)).mono ?_); rw [HGV.out]; rintro e w17 ⟨rfl, rfl⟩)))
          have hX : PX (CG [(w3.heap.size, 31, mapA c), (w.heap.size, 24, cfgA c)] w10.heap.size) (CR [(w3.heap.size, 31, mapA c), (w.heap.size, 24, cfgA c)] w10.heap.size (k + 1)) w w16 B mb lv c { ({ zP c n T with sd := true } : PoD) with nt := (T : Int) - ((k + 1 : Nat) : Int) } n2 b 500 (ctP c 500 (k + 1)) (9 * (k + 1)) := by
            rw [show (T : Int) - ((k + 1 : Nat) : Int) = (T : Int) - k - 1 by omega, show 9 * (k + 1) = 9 * k + 9 by omega, hpk.out, HCP.out]
            exact H16.out
          first | exact ⟨⟨_, k + 1, rfl, by simp, hlt, hX⟩, by simp [intOf]; omega⟩ | (go_roundw; (case rel => exact ⟨_, k + 1, rfl, by simp, hlt, hX⟩); (case measure => simp [intOf]; omega))
        · obtain rfl : k = T := by omega
          have HS := Lib.hid hS
          have HTO : Hid (({ ({ zP c n k with sd := true } : PoD) with nt := (k : Int) - k } : PoD).top c = (-1, false)) := Lib.hid (by unfold PoD.top; rw [if_pos (show ((k : Int) - k = 0) by omega)])
          have HEN : Hid (((ents (ctP c 500 k)).length : Int) = 9 * (k : Int)) := Lib.hid (by rw [ct_ents HC.out.bd k HT8.out.1 (by have := HT8.out; omega), ctE_len]; omega)
          have hm0 := run_mark_neq 0 0
          have e9 : IntKind.i64.wrap (9 * (k : Int)) = 9 * (k : Int) := IntWalk.i64_in _ (by have := HT8.out; omega)
          have h9 : (9 * (k : Int) != 9 * (k : Int)) = false := by simp
          have hkk : ((k : Int) != (k : Int)) = false := by simp
          obtain ⟨r2, hr2, er2⟩ := andB_bound give 15 (by decide)
          have er2' : bits BinOp.and IntKind.i64 give 15 = (r2 : Int) := er2
          obtain ⟨g, hg⟩ : ∃ g : Nat, min (r2 : Int) (k : Int) = g := ⟨min r2 k, by omega⟩
          have HGK : Hid (g ≤ k) := Lib.hid (by omega)
          clear hS hk er2 hlt
          go_wp2_with (first
            | (go_at_call 39; ((with_reducible refine (topX HS.out.pool HC.out.bd (by show 0 ≤ (k : Int) - k ∧ (k : Int) - k ≤ 100000; omega) HTO.out).mono ?_); rintro e w11 ⟨rfl, hk⟩; have H12 := Lib.hid (HS.out.keep hk); clear hk))
            | (go_at_call 30; ((with_reducible refine (markX H12.out.pool (a := 0) (b := 0) (show (k : Int) - k = 0 by omega) rfl).mono ?_); rintro e w13 ⟨rfl, hk⟩; have H13 := Lib.hid (H12.out.keep hk); have hlen := fun ty => H13.out.holds.2.len ty; clear hk))
            | (go_at_call 51; ((with_reducible refine (H13.out.lenS HEN.out).mono ?_); rintro e w14 ⟨rfl, rfl⟩)))
          have H14 : Hid (PX (CG [(w3.heap.size, 31, mapA c), (w.heap.size, 24, cfgA c)] w10.heap.size) (CR [(w3.heap.size, 31, mapA c), (w.heap.size, 24, cfgA c)] w10.heap.size k) w w13 B mb lv c { ({ zP c n k with sd := true } : PoD) with nt := 0, nl := min ((0 : Nat) : Int) c.lim } n2 b 500 (ctP c 500 k) (72 + 2 * 0)) := Lib.hid (by
            have e : ({ ({ zP c n k with sd := true } : PoD) with nt := 0, nl := min ((0 : Nat) : Int) c.lim } : PoD) = { ({ zP c n k with sd := true } : PoD) with nt := (k : Int) - k } := by
              rw [show (k : Int) - k = 0 by omega, show min ((0 : Nat) : Int) c.lim = 0 by have := HC.out.bd.l0; omega]
              rfl
            rw [e]
            exact H13.out.upk (by have := HT8.out; omega))
          clear hlen
          go_loopw [144] (fun i wr => CuRel w [(w3.heap.size, 31, mapA c), (w.heap.size, 24, cfgA c)] w10.heap.size B mb lv c ({ zP c n k with sd := true } : PoD) n2 b k g i wr) (fun i _ => g - (intOf i).toNat)
          case atStart => exact ⟨_, 0, _, rfl, rfl, Nat.zero_le _, H14.out⟩
          case round =>
            obtain ⟨Wb, j, ps, rfl, rfl, hj, hV⟩ := hrel
            have HV := Lib.hid hV
            by_cases hjg : j < g
            · have hd2 : decide ((j : Int) < g) = true := decide_eq_true (by omega)
              have ej : IntKind.i64.wrap ((j : Int) + 1) = j + 1 := IntWalk.i64_in _ (by have := HT8.out; have := HGK.out; omega)
              have HJ : Hid (j < g) := Lib.hid hjg
              obtain ⟨gp, hgp⟩ : ∃ q, giveD c 500 (min (j : Int) c.lim) ps (j : Int) = q := ⟨_, rfl⟩
              have hg1 : gp.1 = min ((j + 1 : Nat) : Int) c.lim := by
                rw [← hgp]
                unfold giveD
                by_cases hle : c.lim ≤ min (j : Int) c.lim
                · rw [if_pos (.inl hle)]
                  show min (j : Int) c.lim = _
                  omega
                · rw [if_neg (by rintro (h | h); exact hle h; exact h (by have := HT8.out; have := HGK.out; omega))]
                  show min (j : Int) c.lim + 1 = _
                  omega
              obtain ⟨gx, gy⟩ := gp
              have HGP := Lib.hid hgp
              have HG1 := Lib.hid hg1
              clear hV hgp hg1
              go_wp2_with (go_at_call 34; ((with_reducible refine (HV.out.giveX HC.out.bd (j : Int) (by have := HC.out.bd.l1; have := HC.out.bd.l0; show 0 ≤ min (j : Int) c.lim ∧ min (j : Int) c.lim ≤ 100000; omega) (by have := HT8.out; have := HGK.out; have := HJ.out; omega) HGP.out rfl).mono ?_); rintro e w15 ⟨rfl, h⟩; have H15 := Lib.hid h; clear h))
              have hX : PX (CG [(w3.heap.size, 31, mapA c), (w.heap.size, 24, cfgA c)] w10.heap.size) (CR [(w3.heap.size, 31, mapA c), (w.heap.size, 24, cfgA c)] w10.heap.size k) w w15 B mb lv c { ({ zP c n k with sd := true } : PoD) with nt := 0, nl := min ((j + 1 : Nat) : Int) c.lim } n2 b 500 gy (72 + 2 * (j + 1)) := by
                rw [← HG1.out]
                exact H15.out
              first | exact ⟨⟨_, j + 1, gy, rfl, by simp, hjg, hX⟩, by simp [intOf]; omega⟩ | (go_roundw; (case rel => exact ⟨_, j + 1, gy, rfl, by simp, hjg, hX⟩); (case measure => simp [intOf]; omega))
            · obtain rfl : j = g := by omega
              obtain ⟨mm, hmm2⟩ : ∃ q, min (j : Int) c.lim = q := ⟨_, rfl⟩
              have hme := run_mark_eql 0 mm
              have HMM := Lib.hid hmm2
              have S0 := Lib.hid (loadMap_arr (hV.holds.1 (w3.heap.size, 31, mapA c) (by simp)).drew rfl)
              clear hV
              go_wp2_with fail
              go_region_held3 (fun w' => (loadMap ⟨w3.heap.size, 0, none⟩).run Try.prog w' = .ok (.agg (mapA c)) w')
                (with_reducible (first | exact S2.out | exact S1.out | exact S0.out))
                ((first
                  | (go_at_call 30; ((with_reducible refine (markX (HV.out.keep ((Kept.refl _ _).drew)).pool (a := 0) (b := mm) rfl HMM.out).mono ?_); rintro e w16 ⟨rfl, hk⟩; (have H16 := Lib.hid ((HV.out.keep ((Kept.refl _ _).drew)).keep hk); have S1 := Lib.hid (loadMap_arr (H16.out.holds.1 (w3.heap.size, 31, mapA c) (by simp)) rfl); clear hk)))
                  | (go_at_call 50; ((with_reducible refine (limK_calls c HC.out.bd _).mono ?_); rintro e w17 ⟨rfl, hk⟩; (have H17 := Lib.hid (H16.out.keep hk); have S2 := Lib.hid (loadMap_arr (H17.out.holds.1 (w3.heap.size, 31, mapA c) (by simp)) rfl); clear hk)))))
              all_goals (
                go_wp2_with fail
                go_ret
                exact ⟨rfl, H17.out.kept⟩)
  · have HD := Lib.hid (decide_eq_false hok)
    clear hok
    unfold cfgV
    go_enter Try.func8, Try.ntmps8
    go_wp2_with (first
      | (go_at_call 18; ((with_reducible refine (alive10_calls _).mono ?_); rintro e w1 ⟨rfl, hk⟩; have HK1 := Lib.hid (HK0.out.trans hk); have HB1 := Lib.hid (hk.blk HB0.out (fun h => h)); have hl1 := loadCfg_blk HB1.out; clear hk))
      | (go_at_call 10; ((with_reducible refine (right7 c _).mono ?_); rintro e w2 ⟨rfl, hk⟩; rw [HD.out]; have HK2 := Lib.hid (HK1.out.trans hk); clear hk hl1)))
    go_ret
    exact ⟨rfl, HK2.out⟩
end Go.Proofs.Ythjkodjpopcjaaa
