/- Layer 10 (pool): a pool and a set of the law's own, apart, with blocks beside them that stay; put, free. -/
/- Layer 10 (pool): Take, Give, End. -/
/- Layer 10 (pool): Give. -/
import Derived.Test.YthjkodjpopcjaaaPoD
namespace Go.Proofs.Ythjkodjpopcjaaa
open Go.RowKit Go.Maps
attribute [local go_sem ↓] loadMap_eq

/-- A pool and a set made since w0; the blocks of G are none of their own; R holds, and hangs on blocks of G alone. -/
structure PX (G : Nat → Prop) (R : World → Prop) (w0 w : World) (B mb : Nat) (lv : Value) (c : CfgD) (p : PoD) (n b : Nat) (r : Int) (ps : List (Int × Int)) (k : Nat) : Prop where
  pool : PoS w B mb lv c p n
  set : ISet w b r ps k (fun x => w0.heap.size ≤ x ∧ ¬ PF B mb lv x ∧ ¬ G x)
  kept : Kept (fun _ => False) w0 w
  old : ∀ x, PF B mb lv x → w0.heap.size ≤ x ∧ ¬ G x
  low : ∀ x, G x → x < w.heap.size
  holds : R w
  stays : ∀ a c, R a → Kept (fun x => ¬ G x) a c → R c
  len : ps.length ≤ k
  wf : Wf ps
section
variable {G : Nat → Prop} {R : World → Prop} {w0 w w' : World} {B mb : Nat} {lv : Value} {c : CfgD} {p : PoD} {n b : Nat} {r : Int} {ps : List (Int × Int)} {k : Nat}
theorem PX.keep (h : PX G R w0 w B mb lv c p n b r ps k) (kk : Kept (fun _ => False) w w') : PX G R w0 w' B mb lv c p n b r ps k :=
  ⟨h.pool.keep kk, h.set.keep kk, h.kept.trans kk, h.old, fun x hx => Nat.lt_of_lt_of_le (h.low x hx) kk.size, h.stays _ _ h.holds (kk.mono (fun _ _ h => h.elim)), h.stays, h.len, h.wf⟩
theorem PX.turn (h : PX G R w0 w B mb lv c p n b r ps k) {p' : PoD} (hp : PoS w' B mb lv c p' n) (kk : Kept (fun x => x = B) w w') : PX G R w0 w' B mb lv c p' n b r ps k :=
  ⟨hp, h.set.kept kk (fun x hx e => hx.2.1 (.inl e)), Kept.fresh9 h.kept kk (h.old _ (.inl rfl)).1, h.old, fun x hx => Nat.lt_of_lt_of_le (h.low x hx) kk.size,
   h.stays _ _ h.holds (kk.mono (fun x _ e g => (h.old _ (.inl e)).2 g)), h.stays, h.len, h.wf⟩
theorem PX.fld (h : PX G R w0 w B mb lv c p n b r ps k) (i : Nat) (u : Value) {p' : PoD} (e : (poA c p mb lv).setIfInBounds i u = poA c p' mb lv) (h1 : p'.nm = p.nm) (h2 : p'.lm = p.lm) : PX G R w0 (w.setCell ⟨B, i, none⟩ u) B mb lv c p' n b r ps k :=
  h.turn (h.pool.fld i u e h1 h2) ((Kept.refl _ w).setAt u)
theorem PX.put (h : PX G R w0 w B mb lv c p n b r ps k) (a v : Int) (ha : I64 a) (hk : k ≤ 60000) :
    Calls Try.prog 77 #[.pointer (some ⟨b, 0, none⟩), .int .i64 a, .int .u64 v] w fun e w' => e = .returned (.int .i64 (putErr r ps a)) ∧ PX G R w0 w' B mb lv c p n b r (putS r ps (a, v)) (k + 1) :=
  (put_calls h.set a v ha (Nat.le_trans h.len hk) hk).mono fun _ _ ⟨h1, h2, h3⟩ => ⟨h1,
    ⟨h.pool.kept h3 (fun x hx hF => hF.2.1 hx),
     h2.mono (fun x _ hx => hx.elim id (fun hx => ⟨Nat.le_trans h.kept.size hx, fun hp => by have := h.pool.lt hp; omega, fun g => by have := h.low x g; omega⟩)),
     keptOwn h.kept (h3.mono (fun _ _ hx => hx.1)), h.old, fun x hx => Nat.lt_of_lt_of_le (h.low x hx) h3.size, h.stays _ _ h.holds (h3.mono (fun _ _ hx => hx.2.2)), h.stays,
     by have := (putS_len r ps (a, v)).2; have := h.len; omega, h.wf.putS ha⟩⟩
theorem PX.back (h : PX G R w0 w B mb lv c p n b r ps k) (hk : k ≤ 60000) (mark : Int) :
    Calls Try.prog 37 #[.pointer (some ⟨b, 0, none⟩), .int .i64 mark] w fun e w' => e = .returned (.bool (decide (0 ≤ mark ∧ mark ≤ ps.length))) ∧ PX G R w0 w' B mb lv c p n b r (if 0 ≤ mark ∧ mark ≤ ps.length then ps.take mark.toNat else ps) k :=
  (back_calls h.set h.wf (Nat.le_trans h.len hk) mark).mono fun _ _ ⟨h1, h2, h3⟩ => ⟨h1,
    ⟨h.pool.kept h3 (fun x hx hF => hF.2.1 hx), h2, keptOwn h.kept (h3.mono (fun _ _ hx => hx.1)), h.old, fun x hx => Nat.lt_of_lt_of_le (h.low x hx) h3.size, h.stays _ _ h.holds (h3.mono (fun _ _ hx => hx.2.2)), h.stays,
     by have := h.len; split <;> (try rw [List.length_take]) <;> omega, by split; exact h.wf.take _; exact h.wf⟩⟩
theorem PX.get (h : PX G R w0 w B mb lv c p n b r ps k) (a : Int) (ha : I64 a) : Calls Try.prog 48 #[.pointer (some ⟨b, 0, none⟩), .int .i64 a] w fun e w' => e = .returned (getV ps a) ∧ w = w' := get_calls h.set a ha
theorem PX.len_ (h : PX G R w0 w B mb lv c p n b r ps k) : Calls Try.prog 51 #[.pointer (some ⟨b, 0, none⟩)] w fun e w' => e = .returned (.int .i64 ((ents ps).length : Nat)) ∧ w = w' := len_calls h.set
theorem PX.mark_ (h : PX G R w0 w B mb lv c p n b r ps k) : Calls Try.prog 31 #[.pointer (some ⟨b, 0, none⟩)] w fun e w' => e = .returned (.int .i64 (ps.length : Nat)) ∧ w = w' := mark_calls h.set
theorem PX.weak {G' : Nat → Prop} {R' : World → Prop} (h : PX G R w0 w B mb lv c p n b r ps k) (hg : ∀ x, G' x → G x) (hr : R' w) (hs : ∀ a c, R' a → Kept (fun x => ¬ G' x) a c → R' c) : PX G' R' w0 w B mb lv c p n b r ps k :=
  ⟨h.pool, h.set.mono (fun _ _ hx => ⟨hx.1, hx.2.1, fun g => hx.2.2 (hg _ g)⟩), h.kept, fun x hx => ⟨(h.old x hx).1, fun g => (h.old x hx).2 (hg x g)⟩, fun x hx => h.low x (hg x hx), hr, hs, h.len, h.wf⟩
theorem PX.more1 (h : PX G R w0 w B mb lv c p n b r ps k) : PX G R w0 w B mb lv c p n b r ps (k + 1) := ⟨h.pool, h.set.more (Nat.le_succ _), h.kept, h.old, h.low, h.holds, h.stays, Nat.le_succ_of_le h.len, h.wf⟩
theorem at_i64 {c : CfgD} (hc : c.Bd) (a i j : Int) : I64 (c.at_ a i j) := by have := at_bd hc a i j; unfold I64; omega
/-- A cell of a thing is put. -/
def putAt (c : CfgD) (r : Int) (ps : List (Int × Int)) (kd i v : Int) : List (Int × Int) := putS r ps (c.at_ kd i 0, v)
set_option maxRecDepth 100000 in
set_option maxHeartbeats 1000000 in
theorem PX.pput (h : PX G R w0 w B mb lv c p n b r ps k) (hc : c.Bd) (kd i v : Int) (hk : k ≤ 60000) :
    Calls Try.prog 73 #[.pointer (some ⟨B, 0, none⟩), .pointer (some ⟨b, 0, none⟩), .int .i64 kd, .int .i64 i, .int .u64 v] w fun e w' => e = .returned (.tuple #[]) ∧ PX G R w0 w' B mb lv c p n b r (putAt c r ps kd i v) (k + 1) := by
  have hl := h.pool.ldm
  have HH := Lib.hid h
  have HC := Lib.hid hc
  clear h hc
  go_enter Try.func73, Try.ntmps73
  go_wp2_with (first
    | (go_at_call 49; (with_reducible refine (atK_calls c HC.out _ _ _ _).mono ?_); rintro e w1 ⟨rfl, hk1⟩; have H1 := Lib.hid (HH.out.keep hk1); clear hk1 hl)
    | (go_at_call 77; (with_reducible refine (H1.out.put _ v (at_i64 HC.out _ _ _) hk).mono ?_); rintro e w2 ⟨rfl, h2⟩; have H2 := Lib.hid h2; clear h2))
  go_end0
  exact ⟨rfl, H2.out⟩
def freeD (c : CfgD) (r : Int) (nt : Int) (ps : List (Int × Int)) (a : Int) : Int × List (Int × Int) := if nt < c.b then (nt + 1, putAt c r (putAt c r ps 11 a 0) 13 nt a) else (nt, putAt c r ps 11 a 0)
set_option maxRecDepth 100000 in
set_option maxHeartbeats 2000000 in
theorem PX.free (h : PX G R w0 w B mb lv c p n b r ps k) (hc : c.Bd) (a : Int) (ha : 0 ≤ a ∧ a < c.b) (hn : 0 ≤ p.nt ∧ p.nt ≤ 100000) (hk : k ≤ 59990) :
    Calls Try.prog 72 #[.pointer (some ⟨B, 0, none⟩), .pointer (some ⟨b, 0, none⟩), .int .u64 a] w fun e w' => e = .returned (.tuple #[]) ∧ PX G R w0 w' B mb lv c { p with nt := (freeD c r p.nt ps a).1 } n b r (freeD c r p.nt ps a).2 (k + 2) := by
  have b64 := hc.b64
  have e1 : IntKind.i64.wrap a = a := IntWalk.i64_in _ (by omega)
  have e2 : IntKind.i64.wrap (p.nt + 1) = p.nt + 1 := IntWalk.i64_in _ (by omega)
  have HH := Lib.hid h
  have HC := Lib.hid hc
  have HL := Lib.hid hk
  have hf := fld_cfg_b c
  clear h hc hk
  by_cases hlt : p.nt < c.b
  · have hd : decide (p.nt < c.b) = true := decide_eq_true hlt
    have HE : Hid (freeD c r p.nt ps a = (p.nt + 1, putAt c r (putAt c r ps 11 a 0) 13 p.nt a)) := Lib.hid (by unfold freeD; rw [if_pos hlt])
    clear hlt
    go_enter Try.func72, Try.ntmps72
    go_wp2_with (go_at_call 73; (with_reducible refine (HH.out.pput HC.out 11 _ _ (by have := HL.out; omega)).mono ?_); rintro e w1 ⟨rfl, h1⟩; have H1 := Lib.hid (h1.keep ((Kept.refl _ _).drew)); have S0 : Hid ((loadMap ⟨B, 0, none⟩).run Try.prog w1.drew = .ok (.agg (mapA c)) w1.drew ∧ w1.drew.cell? ⟨B, 32, none⟩ = some (.int .i64 p.nt)) := Lib.hid ⟨H1.out.pool.ldm, H1.out.pool.cells.nt⟩; clear h1)
    go_region_held3 (fun w' => (loadMap ⟨B, 0, none⟩).run Try.prog w' = .ok (.agg (mapA c)) w' ∧ w'.cell? ⟨B, 32, none⟩ = some (.int .i64 p.nt))
      (with_reducible (first | exact S1.out | exact S0.out))
      ((go_at_call 70; (with_reducible refine (cfgK_calls c _).mono ?_); rintro e w2 ⟨rfl, hk2⟩; (have h2 := H1.out.keep hk2; have S1 : Hid ((loadMap ⟨B, 0, none⟩).run Try.prog w2 = .ok (.agg (mapA c)) w2 ∧ w2.cell? ⟨B, 32, none⟩ = some (.int .i64 p.nt)) := Lib.hid ⟨h2.pool.ldm, h2.pool.cells.nt⟩; have H2 := Lib.hid h2; clear hk2 h2)))
    go_wp2_with (go_at_call 73; (with_reducible refine (H2.out.pput HC.out 13 _ _ (by have := HL.out; omega)).mono ?_); rintro e w3 ⟨rfl, h3⟩; have H3 := Lib.hid h3; have b1 := h3.pool.cells.nt; have g1 := Blk.frozen h3.pool.blk 32; clear h3)
    go_end0
    exact ⟨rfl, by rw [HE.out]; exact H3.out.fld 32 _ rfl rfl rfl⟩
  · have hd : decide (p.nt < c.b) = false := decide_eq_false hlt
    have HE : Hid (freeD c r p.nt ps a = (p.nt, putAt c r ps 11 a 0)) := Lib.hid (by unfold freeD; rw [if_neg hlt])
    clear hlt
    go_enter Try.func72, Try.ntmps72
    go_wp2_with (go_at_call 73; (with_reducible refine (HH.out.pput HC.out 11 _ _ (by have := HL.out; omega)).mono ?_); rintro e w1 ⟨rfl, h1⟩; have H1 := Lib.hid (h1.keep ((Kept.refl _ _).drew)); have S0 : Hid ((loadMap ⟨B, 0, none⟩).run Try.prog w1.drew = .ok (.agg (mapA c)) w1.drew ∧ w1.drew.cell? ⟨B, 32, none⟩ = some (.int .i64 p.nt)) := Lib.hid ⟨H1.out.pool.ldm, H1.out.pool.cells.nt⟩; clear h1)
    go_region_held3 (fun w' => (loadMap ⟨B, 0, none⟩).run Try.prog w' = .ok (.agg (mapA c)) w' ∧ w'.cell? ⟨B, 32, none⟩ = some (.int .i64 p.nt))
      (with_reducible (first | exact S1.out | exact S0.out))
      ((go_at_call 70; (with_reducible refine (cfgK_calls c _).mono ?_); rintro e w2 ⟨rfl, hk2⟩; (have h2 := H1.out.keep hk2; have S1 : Hid ((loadMap ⟨B, 0, none⟩).run Try.prog w2 = .ok (.agg (mapA c)) w2 ∧ w2.cell? ⟨B, 32, none⟩ = some (.int .i64 p.nt)) := Lib.hid ⟨h2.pool.ldm, h2.pool.cells.nt⟩; have H2 := Lib.hid h2; clear hk2 h2)))
    go_wp2_with fail
    go_end0
    exact ⟨rfl, by rw [HE.out]; exact H2.out.more1⟩
end
end Go.Proofs.Ythjkodjpopcjaaa

namespace Go.Proofs.Ythjkodjpopcjaaa
open Go.RowKit Go.Maps
attribute [local go_sem ↓] loadMap_eq

/-- A block's words become noughts. -/
def noughts (c : CfgD) (a : Int) (m : Nat) : List (Int × Int) := (List.range m).map fun (k : Nat) => (c.at_ 16 a (k : Int), 0)
theorem noughts_succ (c : CfgD) (a : Int) (m : Nat) : noughts c a (m + 1) = noughts c a m ++ [(c.at_ 16 a (m : Int), 0)] := by unfold noughts; rw [List.range_succ, List.map_append]; rfl
def takeD (c : CfgD) (r : Int) (nt : Int) (ps : List (Int × Int)) (a : Int) : Int × List (Int × Int) :=
  if nt = 0 ∨ ¬ (0 ≤ a ∧ a < c.b) then (nt, ps) else (nt - 1, putsS r (putAt c r ps 11 a 1) (noughts c a 8))
def giveD (c : CfgD) (r : Int) (nl : Int) (ps : List (Int × Int)) (a : Int) : Int × List (Int × Int) :=
  if c.lim ≤ nl ∨ ¬ (0 ≤ a ∧ a < c.b) then (nl, ps) else (nl + 1, putAt c r (putAt c r ps 11 a 2) 15 nl a)
def endD (c : CfgD) (r : Int) (p : PoD) (ps : List (Int × Int)) : List (Int × Int) :=
  (fun q => if p.nl ≠ p.wl then putAt c r q 14 0 p.nl else q) (if p.nt ≠ p.wt then putAt c r ps 12 0 p.nt else ps)
section
variable {G : Nat → Prop} {R : World → Prop} {w0 w w' : World} {B mb : Nat} {lv : Value} {c : CfgD} {p : PoD} {n b : Nat} {r : Int} {ps : List (Int × Int)} {k : Nat}
theorem PX.morek (h : PX G R w0 w B mb lv c p n b r ps k) (j : Nat) : PX G R w0 w B mb lv c p n b r ps (k + j) := ⟨h.pool, h.set.more (Nat.le_add_right _ _), h.kept, h.old, h.low, h.holds, h.stays, Nat.le_trans h.len (Nat.le_add_right _ _), h.wf⟩
theorem PX.eq2 {f : Int → PoD} {x : Int} {y : List (Int × Int)} {D : Int × List (Int × Int)} (h : PX G R w0 w B mb lv c (f x) n b r y k) (e : D = (x, y)) : PX G R w0 w B mb lv c (f D.1) n b r D.2 k := by
  subst e
  exact h
/-- The loop over the words. -/
def TkRel (G : Nat → Prop) (R : World → Prop) (w0 : World) (B mb : Nat) (lv : Value) (c : CfgD) (p : PoD) (n b : Nat) (r : Int) (ps : List (Int × Int)) (k : Nat) (a : Int) (i : Value) (wr : World) : Prop :=
  ∃ (W : World) (m : Nat), W = wr ∧ i = .int .i64 m ∧ m ≤ 8 ∧ PX G R w0 W B mb lv c p n b r (putsS r ps (noughts c a m)) (k + m)
set_option maxRecDepth 100000 in
set_option maxHeartbeats 2000000 in
theorem PX.take (h : PX G R w0 w B mb lv c p n b r ps k) (hc : c.Bd) (a : Int) (hn : 0 ≤ p.nt ∧ p.nt ≤ 100000) (hk : k ≤ 59980) :
    Calls Try.prog 32 #[.pointer (some ⟨B, 0, none⟩), .pointer (some ⟨b, 0, none⟩), .int .i64 a] w fun e w' => e = .returned (.tuple #[]) ∧ PX G R w0 w' B mb lv c { p with nt := (takeD c r p.nt ps a).1 } n b r (takeD c r p.nt ps a).2 (k + 9) := by
  have e1 : IntKind.i64.wrap (p.nt - 1) = p.nt - 1 := IntWalk.i64_in _ (by omega)
  have c1 := h.pool.cells.nt
  have HH := Lib.hid h
  have HC := Lib.hid hc
  have HL := Lib.hid hk
  clear h hc hk
  by_cases h0 : p.nt = 0
  · have HE : Hid (takeD c r p.nt ps a = (p.nt, ps)) := Lib.hid (by unfold takeD; rw [if_pos (.inl h0)])
    rw [h0] at c1
    clear h0
    go_enter Try.func32, Try.ntmps32
    go_wp2_with fail
    exact bodyPost_ret (v := .tuple #[]) (by simp [results, Try.results32, go_sem]) rfl ⟨rfl, by rw [HE.out]; exact HH.out.morek 9⟩
  have h0' : (p.nt == 0) = false := by simpa using h0
  by_cases ha : 0 ≤ a ∧ a < c.b
  · have HE : Hid (takeD c r p.nt ps a = (p.nt - 1, putsS r (putAt c r ps 11 a 1) (noughts c a 8))) := Lib.hid (by unfold takeD; rw [if_neg (by simp [h0, ha])])
    have HA : Hid (decide (0 ≤ a ∧ a < c.b) = true) := Lib.hid (decide_eq_true ha)
    clear h0 ha
    go_enter Try.func32, Try.ntmps32
    go_wp2_with (first
      | (go_at_call 76; (with_reducible refine (thereP_calls HH.out.pool a).mono ?_); rintro e w1 ⟨rfl, hk1⟩; rw [HA.out]; have H1 := Lib.hid (HH.out.keep hk1); have b1 := H1.out.pool.cells.nt; have g1 := Blk.frozen H1.out.pool.blk 32; have H2 := Lib.hid (H1.out.fld 32 (.int .i64 (p.nt - 1)) (p' := { p with nt := p.nt - 1 }) rfl rfl rfl); clear hk1)
      | (go_at_call 73; (with_reducible refine (H2.out.pput HC.out 11 _ _ (by have := HL.out; omega)).mono ?_); rintro e w3 ⟨rfl, h3⟩; have H3 := Lib.hid h3; clear h3))
    go_loopw [32] (fun i wr => TkRel G R w0 B mb lv c { p with nt := p.nt - 1 } n b r (putAt c r ps 11 a 1) (k + 1) a i wr) (fun i _ => 8 - (intOf i).toNat)
    case atStart => exact ⟨_, 0, rfl, rfl, Nat.zero_le _, H3.out⟩
    case round =>
      obtain ⟨Wa, m, rfl, rfl, hm, hS⟩ := hrel
      by_cases h8 : m < 8
      · have HS := Lib.hid hS
        have hl := hS.pool.ldm
        have hd : decide ((m : Int) < 8) = true := decide_eq_true (by omega)
        clear hS
        go_wp2_with (first
          | (go_at_call 49; (with_reducible refine (atK_calls c HC.out _ _ _ _).mono ?_); rintro e w4 ⟨rfl, hk1⟩; have H4 := Lib.hid (HS.out.keep hk1); clear hk1 hl)
          | (go_at_call 77; (with_reducible refine (H4.out.put _ 0 (at_i64 HC.out _ _ _) (by have := HL.out; omega)).mono ?_); rintro e w5 ⟨rfl, h2⟩; have H5 := Lib.hid h2; clear h2))
        have hX : PX G R w0 w5 B mb lv c { p with nt := p.nt - 1 } n b r (putsS r (putAt c r ps 11 a 1) (noughts c a (m + 1))) (k + 1 + (m + 1)) := by rw [noughts_succ, putsS_snoc]; exact H5.out
        first | exact ⟨⟨_, m + 1, rfl, by simp, h8, hX⟩, by simp [intOf]; omega⟩ | (go_roundw; (case rel => exact ⟨_, m + 1, rfl, by simp, h8, hX⟩); (case measure => simp [intOf]; omega))
      · obtain rfl : m = 8 := by omega
        have HS := Lib.hid hS
        clear hS
        go_wp2_with fail
        go_end0
        have hX := HS.out
        rw [show k + 1 + 8 = k + 9 by omega] at hX
        exact ⟨rfl, hX.eq2 (f := fun x => { p with nt := x }) HE.out⟩
  · have HE : Hid (takeD c r p.nt ps a = (p.nt, ps)) := Lib.hid (by unfold takeD; rw [if_pos (.inr ha)])
    have HA : Hid (decide (0 ≤ a ∧ a < c.b) = false) := Lib.hid (decide_eq_false ha)
    clear h0 ha
    go_enter Try.func32, Try.ntmps32
    go_wp2_with (go_at_call 76; (with_reducible refine (thereP_calls HH.out.pool a).mono ?_); rintro e w1 ⟨rfl, hk1⟩; rw [HA.out]; have H1 := Lib.hid (HH.out.keep hk1); clear hk1)
    exact bodyPost_ret (v := .tuple #[]) (by simp [results, Try.results32, go_sem]) rfl ⟨rfl, by rw [HE.out]; exact H1.out.morek 9⟩
set_option maxRecDepth 100000 in
set_option maxHeartbeats 2000000 in
theorem PX.fin (h : PX G R w0 w B mb lv c p n b r ps k) (hc : c.Bd) (hn : 0 ≤ p.nt ∧ p.nt ≤ 100000) (hl : 0 ≤ p.nl ∧ p.nl ≤ 100000) (hk : k ≤ 59980) :
    Calls Try.prog 44 #[.pointer (some ⟨B, 0, none⟩), .pointer (some ⟨b, 0, none⟩)] w fun e w' => e = .returned (.tuple #[]) ∧ PX G R w0 w' B mb lv c p n b r (endD c r p ps) (k + 2) := by
  have e1 : IntKind.u64.wrap p.nt = p.nt := IntWalk.u64_in _ (by omega)
  have e2 : IntKind.u64.wrap p.nl = p.nl := IntWalk.u64_in _ (by omega)
  have HH := Lib.hid h
  have HC := Lib.hid hc
  have HL := Lib.hid hk
  have d1 := h.pool.cells.nt
  have d2 := h.pool.cells.wt
  have d3 := h.pool.cells.nl
  have d4 := h.pool.cells.wl
  clear h hc hk
  by_cases hT : p.nt = p.wt
  · have hT' : (p.nt != p.wt) = false := by simpa using hT
    by_cases hU : p.nl = p.wl
    · have hU' : (p.nl != p.wl) = false := by simpa using hU
      have HE : Hid (endD c r p ps = ps) := Lib.hid (by unfold endD; rw [if_neg (by simp [hT])]; simp [hU])
      clear hT hU
      go_enter Try.func44, Try.ntmps44
      go_wp2_with fail
      go_quiet (fail)
      go_wp2_with fail
      go_quiet (fail)
      go_wp2_with fail
      go_end0
      exact ⟨rfl, by rw [HE.out]; exact (HH.out.keep (((Kept.refl _ _).drewN _).drewN _)).morek 2⟩
    · have hU' : (p.nl != p.wl) = true := by simpa using hU
      have HE : Hid (endD c r p ps = putAt c r ps 14 0 p.nl) := Lib.hid (by unfold endD; rw [if_neg (by simp [hT])]; simp [hU])
      clear hT hU
      go_enter Try.func44, Try.ntmps44
      go_wp2_with fail
      go_quiet (fail)
      go_wp2_with fail
      go_quiet (fail)
      go_wp2_with (go_at_call 73; refine Hid.out ?_)
      refine Lib.hid ?_
      refine ((HH.out.keep ((Kept.refl _ _).drewN _)).pput HC.out 14 0 p.nl (by have := HL.out; omega)).mono ?_
      rintro e w3 ⟨rfl, h3⟩
      have H3 := Lib.hid h3
      clear h3
      go_wp2_with fail
      go_end0
      exact ⟨rfl, by rw [HE.out]; exact H3.out.more1⟩
  · have hT' : (p.nt != p.wt) = true := by simpa using hT
    by_cases hU : p.nl = p.wl
    · have hU' : (p.nl != p.wl) = false := by simpa using hU
      have HE : Hid (endD c r p ps = putAt c r ps 12 0 p.nt) := Lib.hid (by unfold endD; rw [if_pos hT]; simp [hU])
      clear hT hU
      go_enter Try.func44, Try.ntmps44
      go_wp2_with fail
      go_quiet (fail)
      go_wp2_with (go_at_call 73; (refine ((HH.out.keep ((Kept.refl _ _).drewN _)).pput HC.out 12 0 p.nt (by have := HL.out; omega)).mono ?_); rintro e w3 ⟨rfl, h3⟩; have H3 := Lib.hid h3; have d5 := h3.pool.cells.nl; have d6 := h3.pool.cells.wl; clear h3)
      go_quiet (fail)
      go_wp2_with fail
      go_end0
      exact ⟨rfl, by rw [HE.out]; exact (H3.out.keep ((Kept.refl _ _).drewN _)).more1⟩
    · have hU' : (p.nl != p.wl) = true := by simpa using hU
      have HE : Hid (endD c r p ps = putAt c r (putAt c r ps 12 0 p.nt) 14 0 p.nl) := Lib.hid (by unfold endD; rw [if_pos hT]; simp [hU])
      clear hT hU
      go_enter Try.func44, Try.ntmps44
      go_wp2_with fail
      go_quiet (fail)
      go_wp2_with (go_at_call 73; (refine ((HH.out.keep ((Kept.refl _ _).drewN _)).pput HC.out 12 0 p.nt (by have := HL.out; omega)).mono ?_); rintro e w3 ⟨rfl, h3⟩; have H3 := Lib.hid h3; have d5 := h3.pool.cells.nl; have d6 := h3.pool.cells.wl; clear h3)
      go_quiet (fail)
      go_wp2_with (go_at_call 73; (refine ((H3.out.keep ((Kept.refl _ _).drewN _)).pput HC.out 14 0 p.nl (by have := HL.out; omega)).mono ?_); rintro e w4 ⟨rfl, h4⟩; have H4 := Lib.hid h4; clear h4)
      go_end0
      exact ⟨rfl, by rw [HE.out]; exact H4.out⟩
end
end Go.Proofs.Ythjkodjpopcjaaa

namespace Go.Proofs.Ythjkodjpopcjaaa
open Go.RowKit Go.Maps
attribute [local go_sem ↓] loadMap_eq
section
variable {G : Nat → Prop} {R : World → Prop} {w0 w w' : World} {B mb : Nat} {lv : Value} {c : CfgD} {p : PoD} {n b : Nat} {r : Int} {ps : List (Int × Int)} {k : Nat}
set_option maxRecDepth 100000 in
set_option maxHeartbeats 2000000 in
theorem PX.give (h : PX G R w0 w B mb lv c p n b r ps k) (hc : c.Bd) (a : Int) (hn : 0 ≤ p.nl ∧ p.nl ≤ 100000) (hk : k ≤ 59980) :
    Calls Try.prog 34 #[.pointer (some ⟨B, 0, none⟩), .pointer (some ⟨b, 0, none⟩), .int .i64 a] w fun e w' => e = .returned (.tuple #[]) ∧ PX G R w0 w' B mb lv c { p with nl := (giveD c r p.nl ps a).1 } n b r (giveD c r p.nl ps a).2 (k + 2) := by
  have e1 : IntKind.i64.wrap (p.nl + 1) = p.nl + 1 := IntWalk.i64_in _ (by omega)
  have b64 := hc.b64
  have H1 := Lib.hid (h.keep ((Kept.refl _ w).drew))
  have HC := Lib.hid hc
  have HL := Lib.hid hk
  have S0 : Hid ((loadMap ⟨B, 0, none⟩).run Try.prog w.drew = .ok (.agg (mapA c)) w.drew ∧ w.drew.cell? ⟨B, 33, none⟩ = some (.int .i64 p.nl)) := Lib.hid ⟨H1.out.pool.ldm, H1.out.pool.cells.nl⟩
  clear h hc hk
  by_cases h0 : c.lim ≤ p.nl
  · have HE : Hid (giveD c r p.nl ps a = (p.nl, ps)) := Lib.hid (by unfold giveD; rw [if_pos (.inl h0)])
    have hd : decide (c.lim ≤ p.nl) = true := decide_eq_true h0
    clear h0
    have d1 := H1.out.pool.cells.nl
    have hl := H1.out.pool.ldm
    go_enter Try.func34, Try.ntmps34
    go_wp2_with fail
    first
      | (go_region_law (first
          | (go_simp; go_at_call 50; ((with_reducible refine (limK_calls c HC.out _).mono ?_); rintro e w2 ⟨rfl, hk2⟩; (have h2 := H1.out.keep hk2; have d2 := h2.pool.cells.nl; have H2 := Lib.hid h2; clear hk2 h2)))))
      | fail
    all_goals (
      go_wp2_with fail
      exact bodyPost_ret (v := .tuple #[]) (by simp [results, Try.results34, go_sem]) rfl ⟨rfl, by rw [HE.out]; exact H2.out.morek 2⟩)
  have hd : decide (c.lim ≤ p.nl) = false := decide_eq_false h0
  by_cases ha : 0 ≤ a ∧ a < c.b
  · have HE : Hid (giveD c r p.nl ps a = (p.nl + 1, putAt c r (putAt c r ps 11 a 2) 15 p.nl a)) := Lib.hid (by unfold giveD; rw [if_neg (by simp [h0, ha])])
    have HA : Hid (decide (0 ≤ a ∧ a < c.b) = true) := Lib.hid (decide_eq_true ha)
    have e2 : IntKind.u64.wrap a = a := IntWalk.u64_in _ (by omega)
    clear h0 ha
    go_enter Try.func34, Try.ntmps34
    go_wp2_with fail
    go_region_held3 (fun w' => (loadMap ⟨B, 0, none⟩).run Try.prog w' = .ok (.agg (mapA c)) w' ∧ w'.cell? ⟨B, 33, none⟩ = some (.int .i64 p.nl))
      (with_reducible (first | exact S2.out | exact S1.out | exact S0.out))
      ((first
        | (go_at_call 76; (with_reducible refine (thereP_calls H2.out.pool a).mono ?_); rintro e w3 ⟨rfl, hk2⟩; rw [HA.out]; (have h2 := H2.out.keep hk2; have S2 : Hid ((loadMap ⟨B, 0, none⟩).run Try.prog w3 = .ok (.agg (mapA c)) w3 ∧ w3.cell? ⟨B, 33, none⟩ = some (.int .i64 p.nl)) := Lib.hid ⟨h2.pool.ldm, h2.pool.cells.nl⟩; have H3 := Lib.hid h2; clear hk2 h2))
        | (go_at_call 50; (with_reducible refine (limK_calls c HC.out _).mono ?_); rintro e w2 ⟨rfl, hk2⟩; (have h2 := H1.out.keep hk2; have S1 : Hid ((loadMap ⟨B, 0, none⟩).run Try.prog w2 = .ok (.agg (mapA c)) w2 ∧ w2.cell? ⟨B, 33, none⟩ = some (.int .i64 p.nl)) := Lib.hid ⟨h2.pool.ldm, h2.pool.cells.nl⟩; have H2 := Lib.hid h2; clear hk2 h2))))
    go_wp2_with (first
      | (go_at_call 73; (with_reducible refine (H3.out.pput HC.out 11 _ _ (by have := HL.out; omega)).mono ?_); rintro e w4 ⟨rfl, h3⟩; have H4 := Lib.hid h3; have b1 := h3.pool.cells.nl; clear h3)
      | (go_at_call 73; (with_reducible refine (H4.out.pput HC.out 15 _ _ (by have := HL.out; omega)).mono ?_); rintro e w5 ⟨rfl, h3⟩; have H5 := Lib.hid h3; have b2 := h3.pool.cells.nl; have g2 := Blk.frozen h3.pool.blk 33; clear h3))
    go_end0
    exact ⟨rfl, by rw [HE.out]; exact H5.out.fld 33 _ rfl rfl rfl⟩
  · have HE : Hid (giveD c r p.nl ps a = (p.nl, ps)) := Lib.hid (by unfold giveD; rw [if_pos (.inr ha)])
    have HA : Hid (decide (0 ≤ a ∧ a < c.b) = false) := Lib.hid (decide_eq_false ha)
    clear h0 ha
    go_enter Try.func34, Try.ntmps34
    go_wp2_with fail
    go_region_held3 (fun w' => (loadMap ⟨B, 0, none⟩).run Try.prog w' = .ok (.agg (mapA c)) w' ∧ w'.cell? ⟨B, 33, none⟩ = some (.int .i64 p.nl))
      (with_reducible (first | exact S2.out | exact S1.out | exact S0.out))
      ((first
        | (go_at_call 76; (with_reducible refine (thereP_calls H2.out.pool a).mono ?_); rintro e w3 ⟨rfl, hk2⟩; rw [HA.out]; (have h2 := H2.out.keep hk2; have S2 : Hid ((loadMap ⟨B, 0, none⟩).run Try.prog w3 = .ok (.agg (mapA c)) w3 ∧ w3.cell? ⟨B, 33, none⟩ = some (.int .i64 p.nl)) := Lib.hid ⟨h2.pool.ldm, h2.pool.cells.nl⟩; have H3 := Lib.hid h2; clear hk2 h2))
        | (go_at_call 50; (with_reducible refine (limK_calls c HC.out _).mono ?_); rintro e w2 ⟨rfl, hk2⟩; (have h2 := H1.out.keep hk2; have S1 : Hid ((loadMap ⟨B, 0, none⟩).run Try.prog w2 = .ok (.agg (mapA c)) w2 ∧ w2.cell? ⟨B, 33, none⟩ = some (.int .i64 p.nl)) := Lib.hid ⟨h2.pool.ldm, h2.pool.cells.nl⟩; have H2 := Lib.hid h2; clear hk2 h2))))
    go_wp2_with fail
    exact bodyPost_ret (v := .tuple #[]) (by simp [results, Try.results34, go_sem]) rfl ⟨rfl, by rw [HE.out]; exact H3.out.morek 2⟩
end
end Go.Proofs.Ythjkodjpopcjaaa
