/- PoolFrees: the law's walk. -/
import Derived.Test.YthjkodjpopcjaaaPoPw
import Derived.Test.YthjkodjpopcjaaaPoR
namespace Go.Proofs.Ythjkodjpopcjaaa
open Go.RowKit Go.Maps
attribute [local go_sem ↓] loadMap_eq stMap_eq loadCfg_eq

theorem limA (c : CfgD) (h : c.Bd) (w : World) : Calls Try.prog 46 #[.agg (cfgA c)] w fun e w' => e = .returned (.int .i64 c.lim) ∧ Kept (fun _ => False) w w' := rLimit c h w
def mtI : MTy := ⟨.i64, .i64, 3, 3, 103⟩
theorem mtI_fine : mtI.Fine := ⟨Try.underlying3, Try.underlying3, Try.underlying103, fun w => zeroInt w⟩
theorem Try.sizeU64' : (Try.prog.info? 22).map (·.size) = some 1 := by kernel_rfl
theorem Try.elemU64s : Try.prog.elem 63 = 22 := by kernel_rfl
theorem run_u64_h (a : Addr) (m c h : Nat) (t : Int) (ht : (h : Int) = t) (h1 : 1 ≤ h) (h2 : h ≤ c) (W : World) :
    (Instr.slice 63 (.slice (some a) m c) none (some (.int .i64 t)) none).run Try.prog W = .ok (.slice (some a) h c) W := by
  subst ht
  have e1 : (h : Int).toNat = h := by omega
  have hs : (sizeOf 22).run Try.prog W = .ok 1 W := by
    obtain ⟨i, hi, h3⟩ := Option.map_eq_some_iff.1 Try.sizeU64'
    simp [sizeOf, hi, h3, go_sem]
    first | rfl | kernel_rfl
  rw [run_slice_h (ht := by rw [Try.elemU64s]; exact Try.underlying63) (h0 := by omega) (h2 := by omega), Try.elemU64s, hs, e1]
  simp only [Result.andThen, sliced]
  have hc : ¬ c = 0 := by omega
  simp [hc, Addr.add]
theorem u64L_one (l : List Int) : ∀ u ∈ u64L l, u.oneCell' = true := fun u hu => by
  obtain ⟨a, _, rfl⟩ := List.mem_map.1 hu
  rfl
theorem u64L_app (l m : List Int) : u64L (l ++ m) = u64L l ++ u64L m := by simp [u64L]
/-- A row of numbers that was made here. -/
structure OwnU (g : Nat) (w0 w : World) (v : Value) (l : List Int) : Prop where
  own : w.ownsRow 0 22 1 v l.length (u64L l)
  low : ∀ x, v.ownBlock = some x → g ≤ x
  kept : Kept (fun _ => False) w0 w
theorem OwnU.step {g : Nat} {w0 w W w2 : World} {v v2 : Value} {l m : List Int} {q : Nat} {L2 : List Value} (h : OwnU g w0 w v l) (hg0 : w0.heap.size ≤ g) (hgw : g ≤ w.heap.size) (h1 : Kept (fun _ => False) w W)
    (hown : w2.ownsRow 0 22 1 v2 q L2) (hq : q = (l ++ m).length) (hL : L2 = u64L (l ++ m)) (hg : W.grownBy w2 v.ownBlock) (hat : v2.ownBlock = v.ownBlock ∨ v2.ownBlock = some W.heap.size) :
    OwnU g w0 w2 v2 (l ++ m) ∧ (∀ gb t cs, gb < g → Blk w gb t cs → Blk w2 gb t cs) ∧ w.heap.size ≤ w2.heap.size := by
  subst hq hL
  have h2 := h.kept.trans h1
  refine ⟨⟨hown, fun x hx => ?_, ⟨hg.os.trans h2.os, hg.tape.trans h2.tape, hg.output.trans h2.output, Nat.le_trans h2.size hg.size, fun k' hk' _ => (hg.block k' (Nat.lt_of_lt_of_le hk' h2.size) (fun e => by have := h.low k' e.symm; omega)).trans (h2.block k' hk' (fun h => h))⟩⟩, fun gb t cs hl hb => ?_, Nat.le_trans h1.size hg.size⟩
  · rcases hat with h' | h' <;> rw [h'] at hx
    · exact h.low x hx
    · injection hx with hx
      have := h1.size
      omega
  · have hb1 := h1.blk hb (fun h => h)
    have := hb1.lt
    exact (hg.block gb this (fun e => by have := h.low gb e.symm; omega)).trans hb1
def i64L (l : List Int) : List Value := l.map fun x => .int .i64 x
theorem i64L_len (l : List Int) : (i64L l).length = l.length := by simp [i64L]
theorem infoI64 : (Try.prog.info? 3).map (fun i => (i.zero, i.size, i.bytes)) = some (some (.int .i64 0), 1, 8) := by kernel_rfl
/-- A row of blocks' numbers that was made here. -/
structure OwnI (g : Nat) (w0 w : World) (v : Value) (l : List Int) : Prop where
  own : w.ownsRow 0 3 1 v l.length (i64L l)
  low : ∀ x, v.ownBlock = some x → g ≤ x
  kept : Kept (fun _ => False) w0 w
theorem OwnI.step {g : Nat} {w0 w W w2 : World} {v v2 : Value} {l m : List Int} {q : Nat} {L2 : List Value} (h : OwnI g w0 w v l) (hg0 : w0.heap.size ≤ g) (hgw : g ≤ w.heap.size) (h1 : Kept (fun _ => False) w W)
    (hown : w2.ownsRow 0 3 1 v2 q L2) (hq : q = (l ++ m).length) (hL : L2 = i64L (l ++ m)) (hg : W.grownBy w2 v.ownBlock) (hat : v2.ownBlock = v.ownBlock ∨ v2.ownBlock = some W.heap.size) :
    OwnI g w0 w2 v2 (l ++ m) ∧ (∀ gb t cs, gb < g → Blk w gb t cs → Blk w2 gb t cs) ∧ w.heap.size ≤ w2.heap.size := by
  subst hq hL
  have h2 := h.kept.trans h1
  refine ⟨⟨hown, fun x hx => ?_, ⟨hg.os.trans h2.os, hg.tape.trans h2.tape, hg.output.trans h2.output, Nat.le_trans h2.size hg.size, fun k' hk' _ => (hg.block k' (Nat.lt_of_lt_of_le hk' h2.size) (fun e => by have := h.low k' e.symm; omega)).trans (h2.block k' hk' (fun h => h))⟩⟩, fun gb t cs hl hb => ?_, Nat.le_trans h1.size hg.size⟩
  · rcases hat with h' | h' <;> rw [h'] at hx
    · exact h.low x hx
    · injection hx with hx
      have := h1.size
      omega
  · have hb1 := h1.blk hb (fun h => h)
    have := hb1.lt
    exact (hg.block gb this (fun e => by have := h.low gb e.symm; omega)).trans hb1
theorem OwnI.keep {g : Nat} {w0 w w' : World} {v : Value} {l : List Int} (h : OwnI g w0 w v l) (k : Kept (fun _ => False) w w') : OwnI g w0 w' v l := ⟨k.own h.own (fun x _ hx => hx), h.low, h.kept.trans k⟩
theorem slU_news {w : World} {gs gp : Nat} {l : List Int} (hc : ∀ (k : Nat) (cs : List Value), (l.map fun x => [Value.int .u64 x])[k]? = some cs → ∀ (j : Nat) (u : Value), cs[j]? = some u → w.cell? ⟨gs, gp + k * 1 + j, none⟩ = some u) (n : Nat) :
    ∀ j u, (u64L (l.take n))[j]? = some u → w.cell? ((⟨gs, gp, none⟩ : Addr).add j) = some u := by
  intro j u hj
  obtain ⟨a, ha, rfl⟩ : ∃ a, (l.take n)[j]? = some a ∧ Value.int .u64 a = u := by
    rw [u64L, List.getElem?_map] at hj
    exact Option.map_eq_some_iff.1 hj
  have hl : l[j]? = some a := by
    rw [List.getElem?_take] at ha
    by_cases h : j < n
    · rwa [if_pos h] at ha
    · rw [if_neg h] at ha; cases ha
  have := hc j [.int .u64 a] (by rw [List.getElem?_map, hl]; rfl) 0 _ rfl
  rw [Nat.mul_one, Nat.add_zero] at this
  by_cases h0 : j = 0
  · subst h0; simpa [Addr.add] using this
  · simpa [Addr.add, h0] using this
/-- The loop that fills in. -/
def FvRel (w : World) (c : CfgD) (g : Nat) (l0 ll : List Int) (ml : Nat) (v i : Value) (wr : World) : Prop :=
  ∃ (W : World) (k : Nat) (u : Value), W = wr ∧ u = v ∧ i = .int .i64 k ∧ k ≤ ml ∧ OwnU g w W u (l0 ++ ll.take k) ∧ Blk W w.heap.size 24 (cfgA c) ∧ g ≤ W.heap.size
/-- The loop that looks whether all is unlike. -/
def FsRel (w : World) (c : CfgD) (h : Nat) (ll : List Int) (ml : Nat) (i : Value) (wr : World) : Prop :=
  ∃ (W : World) (k : Nat), W = wr ∧ i = .int .i64 k ∧ k ≤ ml ∧ NMap mtI W h k (cntF (ll.take k)) ∧ (ll.take k).Nodup ∧ (∀ x ∈ ll.take k, 0 ≤ x ∧ x < c.b) ∧ Blk W w.heap.size 24 (cfgA c) ∧ Kept (fun _ => False) w W
/-- The loop over limbo, and the one over slots within it. -/
def FwRel (w10 : World) (S ll : List Int) (j : Nat) (v f i : Value) (wr : World) : Prop :=
  ∃ (W : World) (k : Nat) (u : Value), W = wr ∧ u = v ∧ f = .int .i64 ((goes S (ll.take k)).length : Nat) ∧ i = .int .i64 k ∧ k ≤ j ∧ OwnI w10.heap.size w10 W u (stays S (ll.take k))
def FnRel (Wc : World) (a : Int) (S : List Int) (n : Nat) (v i : Value) (wr : World) : Prop :=
  ∃ (W : World) (q : Nat) (nb : Bool), W = wr ∧ v = .bool nb ∧ nb = decide ((a + 1) ∈ S.take q) ∧ i = .int .i64 q ∧ q ≤ n ∧ Kept (fun _ => False) Wc W
theorem goes_at {S l : List Int} {k : Nat} {a : Int} (h : l[k]? = some a) (hz : S.count (a + 1) = 0) : (goes S l)[(goes S (l.take k)).length]? = some a := by
  have hk : k < l.length := (List.getElem?_eq_some_iff.1 h).1
  have e : l = l.take k ++ (a :: l.drop (k + 1)) := by
    have h1 := (List.getElem?_eq_some_iff.1 h).2
    rw [← h1, List.getElem_cons_drop, List.take_append_drop]
  have e2 : goes S l = goes S (l.take k) ++ (a :: goes S (l.drop (k + 1))) := by
    conv => lhs; rw [e]
    unfold goes
    rw [List.filter_append, List.filter_cons, if_pos (by simpa using hz)]
  rw [e2, List.getElem?_append_right (Nat.le_refl _), Nat.sub_self]
  rfl
theorem own_i64s {w : World} {base : Nat} {v : Value} {l : List Int} (h : w.ownsRow base 3 1 v l.length (i64L l)) : ∃ A c, v = .slice A l.length c ∧ SlAt w A 1 (l.map fun x => [.int .i64 x]) :=
  own_SlAt h (by simp) (fun k cs hk j u hj => by
    rw [List.getElem?_map] at hk
    cases hs : l[k]? with
    | none => rw [hs] at hk; cases hk
    | some a =>
      rw [hs] at hk
      cases hk
      have hk2 : k < l.length := (List.getElem?_eq_some_iff.1 hs).1
      have hj2 : j < 1 := by have := (List.getElem?_eq_some_iff.1 hj).1; simpa using this
      obtain rfl : j = 0 := by omega
      refine ⟨by omega, ?_⟩
      rw [Nat.mul_one, Nat.add_zero, i64L, List.getElem?_map, hs]
      exact hj)
/-- The loop over those that stay. -/
def FkRel (Wc : World) (n : Nat) (i : Value) (wr : World) : Prop :=
  ∃ (W : World) (q : Nat), W = wr ∧ i = .int .i64 q ∧ q ≤ n ∧ Kept (fun _ => False) Wc W
structure FrD (c : CfgD) (S l : List Int) (t : Int) (s : SetD) : Prop where
  nt : s.nt = t + (goes S l).length
  stay : s.stay = (stays S l).length
  life : ∀ a, 0 ≤ a → a < c.b → look (ents s.ps) (c.at_ 11 a 0) = if a ∈ l ∧ S.count (a + 1) = 0 then some 0 else none
  stack : ∀ (i : Nat) (a : Int), (goes S l)[i]? = some a → look (ents s.ps) (c.at_ 13 (t + i) 0) = some a
  limbo : ∀ (i : Nat) (a : Int), (stays S l)[i]? = some a → look (ents s.ps) (c.at_ 15 i 0) = some a ∨ (look (ents s.ps) (c.at_ 15 i 0) = none ∧ l[i]? = some a)
theorem fr_done {c : CfgD} (hc : c.Bd) {S l : List Int} {t : Int} (hb : ∀ x ∈ l, 0 ≤ x ∧ x < c.b) (ht : 0 ≤ t) (hl : t + l.length ≤ c.b) (hl2 : (l.length : Int) ≤ c.lim) (h8 : l.length ≤ 8) : FrD c S l t (stL c 200 S 0 ⟨0, t, []⟩ l) := by
  have h := fr_all hc (S := S) hb ht hl hl2 h8 l.length (Nat.le_refl _)
  rw [List.take_length] at h
  obtain ⟨_, h2, h3, h4, h5, h6, _⟩ := h
  rw [List.take_length] at h2 h3
  simp only [List.take_length] at h4 h5 h6
  exact ⟨h2, h3, h4, h5, h6⟩
theorem fr_settle {c : CfgD} {S l : List Int} {t g : Int} : settleD c 200 (doneP S l t l.length g) [] = ({ doneP S l t l.length g with sd := true, nt := (stL c 200 S 0 ⟨0, t, []⟩ l).nt, nl := (stL c 200 S 0 ⟨0, t, []⟩ l).stay }, (stL c 200 S 0 ⟨0, t, []⟩ l).ps) := by
  unfold settleD
  rw [if_neg (by simp [doneP])]
  rfl
set_option maxRecDepth 100000 in
set_option maxHeartbeats 2000000 in
theorem frees_law (c : CfgD) (As : Option Addr) (ms cs : Nat) (ls : List Int) (Al : Option Addr) (ml cl : Nat) (ll : List Int) (top : Int) (w : World)
    (hls : ls.length = ms) (hms : ms ≤ maxLen) (hcs : ms ≤ cs) (hAs : SlAt w As 1 (ls.map fun x => [.int .u64 x])) (hbs : ∀ e ∈ ls, 0 ≤ e ∧ e ≤ 18446744073709551615)
    (hll : ll.length = ml) (hml : ml ≤ maxLen) (hAl : SlAt w Al 1 (ll.map fun x => [.int .i64 x])) (hbl : ∀ e ∈ ll, I64 e) (_ht : Int64 top) :
    Calls Try.prog 6 #[cfgV c, .slice As ms cs, .slice Al ml cl, .int .i64 top] w (Good w) := by
  have HB0 : Hid (Blk (w.alloc (.cells (cfgA c) 24)) w.heap.size 24 (cfgA c)) := Lib.hid (Blk.new _ _ _)
  have HK0 : Hid (Kept (fun _ => False) w (w.alloc (.cells (cfgA c) 24))) := Lib.hid ((Kept.refl _ _).alloc _)
  have HLS := Lib.hid (And.intro hls (And.intro hAs hbs))
  have HCS := Lib.hid hcs
  have HLL := Lib.hid (And.intro hll (And.intro hAl hbl))
  clear hls hAs hbs hll hAl hbl hcs
  by_cases hok : c.Ok
  · have HD := Lib.hid (decide_eq_true hok)
    have HC := Lib.hid hok
    by_cases h1 : (ms : Int) < c.t
    · have hd1 : decide ((ms : Int) < c.t) = true := decide_eq_true h1
      clear hok h1
      unfold cfgV
      go_enter Try.func6, Try.ntmps6
      go_wp2_with (first
        | (go_at_call 18; ((with_reducible refine (alive10_calls _).mono ?_); rintro e w1 ⟨rfl, hk⟩; have HK1 := Lib.hid (HK0.out.trans hk); have HB1 := Lib.hid (hk.blk HB0.out (fun h => h)); have hl1 := loadCfg_blk HB1.out; clear hk))
        | (go_at_call 10; ((with_reducible refine (right7 c _).mono ?_); rintro e w2 ⟨rfl, hk⟩; rw [HD.out]; have HK2 := Lib.hid (HK1.out.trans hk); have HB2 := Lib.hid (hk.blk HB1.out (fun h => h)); have hl2 := loadCfg_blk HB2.out; have ct2 : w2.cell? ⟨w.heap.size, 0, none⟩ = some (.int .i64 c.t) := HB2.out.cell 0; have cb2 : w2.cell? ⟨w.heap.size, 1, none⟩ = some (.int .i64 c.b) := HB2.out.cell 1; clear hk hl1)))
      go_ret
      exact ⟨rfl, HK2.out⟩
    have hd1 : decide ((ms : Int) < c.t) = false := decide_eq_false h1
    by_cases h2 : 8 < (ml : Int)
    · have hd2 : decide (8 < (ml : Int)) = true := decide_eq_true h2
      clear hok h1 h2
      unfold cfgV
      go_enter Try.func6, Try.ntmps6
      go_wp2_with (first
        | (go_at_call 18; ((with_reducible refine (alive10_calls _).mono ?_); rintro e w1 ⟨rfl, hk⟩; have HK1 := Lib.hid (HK0.out.trans hk); have HB1 := Lib.hid (hk.blk HB0.out (fun h => h)); have hl1 := loadCfg_blk HB1.out; clear hk))
        | (go_at_call 10; ((with_reducible refine (right7 c _).mono ?_); rintro e w2 ⟨rfl, hk⟩; rw [HD.out]; have HK2 := Lib.hid (HK1.out.trans hk); have HB2 := Lib.hid (hk.blk HB1.out (fun h => h)); have hl2 := loadCfg_blk HB2.out; have ct2 : w2.cell? ⟨w.heap.size, 0, none⟩ = some (.int .i64 c.t) := HB2.out.cell 0; have cb2 : w2.cell? ⟨w.heap.size, 1, none⟩ = some (.int .i64 c.b) := HB2.out.cell 1; clear hk hl1)))
      go_ret
      exact ⟨rfl, HK2.out⟩
    have hd2 : decide (8 < (ml : Int)) = false := decide_eq_false h2
    by_cases h3 : c.lim < (ml : Int)
    · have hd3 : decide (c.lim < (ml : Int)) = true := decide_eq_true h3
      clear hok h1 h2 h3
      unfold cfgV
      go_enter Try.func6, Try.ntmps6
      go_wp2_with (first
        | (go_at_call 18; ((with_reducible refine (alive10_calls _).mono ?_); rintro e w1 ⟨rfl, hk⟩; have HK1 := Lib.hid (HK0.out.trans hk); have HB1 := Lib.hid (hk.blk HB0.out (fun h => h)); have hl1 := loadCfg_blk HB1.out; clear hk))
        | (go_at_call 10; ((with_reducible refine (right7 c _).mono ?_); rintro e w2 ⟨rfl, hk⟩; rw [HD.out]; have HK2 := Lib.hid (HK1.out.trans hk); have HB2 := Lib.hid (hk.blk HB1.out (fun h => h)); have hl2 := loadCfg_blk HB2.out; have ct2 : w2.cell? ⟨w.heap.size, 0, none⟩ = some (.int .i64 c.t) := HB2.out.cell 0; have cb2 : w2.cell? ⟨w.heap.size, 1, none⟩ = some (.int .i64 c.b) := HB2.out.cell 1; clear hk hl1))
        | (go_at_call 46; ((with_reducible refine (limA c HC.out.bd _).mono ?_); rintro e W3 ⟨rfl, hk⟩; have HK3 := Lib.hid (HK2.out.trans hk); have HB3 := Lib.hid (hk.blk HB2.out (fun h => h)); have cb3 : W3.cell? ⟨w.heap.size, 1, none⟩ = some (.int .i64 c.b) := HB3.out.cell 1; clear hk hl2 ct2 cb2)))
      go_ret
      exact ⟨rfl, HK3.out⟩
    have hd3 : decide (c.lim < (ml : Int)) = false := decide_eq_false h3
    have HA := Lib.hid (show c.t ≤ ms ∧ ml ≤ 8 ∧ (ml : Int) ≤ c.lim from ⟨by omega, by omega, by omega⟩)
    clear hok h1 h2 h3
    have hmm := @run_makeMap Try.prog
    unfold cfgV
    go_enter Try.func6, Try.ntmps6
    go_wp2_with (first
      | (go_at_call 18; ((with_reducible refine (alive10_calls _).mono ?_); rintro e w1 ⟨rfl, hk⟩; have HK1 := Lib.hid (HK0.out.trans hk); have HB1 := Lib.hid (hk.blk HB0.out (fun h => h)); have hl1 := loadCfg_blk HB1.out; clear hk))
      | (go_at_call 10; ((with_reducible refine (right7 c _).mono ?_); rintro e w2 ⟨rfl, hk⟩; rw [HD.out]; have HK2 := Lib.hid (HK1.out.trans hk); have HB2 := Lib.hid (hk.blk HB1.out (fun h => h)); have hl2 := loadCfg_blk HB2.out; have ct2 : w2.cell? ⟨w.heap.size, 0, none⟩ = some (.int .i64 c.t) := HB2.out.cell 0; have cb2 : w2.cell? ⟨w.heap.size, 1, none⟩ = some (.int .i64 c.b) := HB2.out.cell 1; clear hk hl1))
      | (go_at_call 46; ((with_reducible refine (limA c HC.out.bd _).mono ?_); rintro e W3 ⟨rfl, hk⟩; have HK3 := Lib.hid (HK2.out.trans hk); have HB3 := Lib.hid (hk.blk HB2.out (fun h => h)); have cb3 : W3.cell? ⟨w.heap.size, 1, none⟩ = some (.int .i64 c.b) := HB3.out.cell 1; clear hk hl2 ct2 cb2)))
    clear cb3
    have HM0 : Hid (NMap mtI (W3.alloc (.map #[] 0)) W3.heap.size 0 (cntF (ll.take 0))) := Lib.hid (by
      have e : cntF (ll.take 0) = fun _ => none := by funext x; unfold cntF; simp
      rw [e]
      exact NMap.made mtI W3)
    have HGE : Hid (w.heap.size < W3.heap.size) := Lib.hid HB3.out.lt
    go_loopw [62] (fun i wr => FsRel w c W3.heap.size ll ml i wr) (fun i _ => ml - (intOf i).toNat)
    case atStart => exact ⟨_, 0, rfl, rfl, Nat.zero_le _, HM0.out, by simp, by simp, HB3.out.alloc _, HK3.out.alloc _⟩
    case round =>
      obtain ⟨Wa, k, rfl, rfl, hk, hM, hN, hR, hB, hK⟩ := hrel
      by_cases hlt : k < ml
      · have hd : decide ((k : Int) < ml) = true := decide_eq_true (by omega)
        obtain ⟨a, ha⟩ : ∃ a, ll[k]? = some a := ⟨_, List.getElem?_eq_getElem (by rw [HLL.out.1]; exact hlt)⟩
        obtain ⟨gv, gp, eD, hgv, hc⟩ := (HLL.out.2.1.kept hK) (by rw [List.length_map, HLL.out.1]; omega)
        subst eD
        have c0 : Wa.cell? ⟨gv, gp + k * 1, none⟩ = some (.int .i64 a) := hc k [.int .i64 a] (by rw [List.getElem?_map, ha]; rfl) 0 _ rfl
        rw [Nat.mul_one] at c0
        have htk : ll.take (k + 1) = ll.take k ++ [a] := by rw [List.take_add_one, ha]; rfl
        have hab := HLL.out.2.2 a (List.mem_of_getElem? ha)
        unfold I64 at hab
        have hcl : (ll.take k).count a ≤ 8 := Nat.le_trans List.count_le_length (by rw [List.length_take]; have := HA.out.2.1; omega)
        have hlk := (hM.look mtI_fine (a := a) (WalkArith.wf_i64 hab) _ rfl).2
        obtain ⟨w5, hup, hM5, hK5⟩ := hM.set mtI_fine (by unfold maxLen; have := HA.out.2.1; omega) (a := a) (v := ((ll.take k).count a : Int) + 1) (WalkArith.wf_i64 hab) (WalkArith.wf_i64 (by omega))
        rw [cntF_snoc, ← htk] at hM5
        have hlk2 := (hM5.look mtI_fine (a := a) (WalkArith.wf_i64 hab) _ rfl).2
        rw [cntF_get] at hlk hlk2
        dsimp only [mtI] at hlk hup hlk2
        have e1 : IntKind.i64.wrap (((ll.take k).count a : Int) + 1) = ((ll.take k).count a : Int) + 1 := IntWalk.i64_in _ (by omega)
        have hct : (ll.take (k + 1)).count a = (ll.take k).count a + 1 := by rw [htk, List.count_append, List.count_singleton_self]
        rw [hct] at hlk2
        have hB5 := hK5.blk hB (by have := HGE.out; omega)
        have cb5 : w5.cell? ⟨w.heap.size, 1, none⟩ = some (.int .i64 c.b) := hB5.cell 1
        have HB5 := Lib.hid hB5
        have HM5 := Lib.hid hM5
        have HK5 := Lib.hid (Kept.fresh9 hK hK5 (by have := HGE.out; omega))
        by_cases g : a < 0 ∨ c.b ≤ a ∨ a ∈ ll.take k
        · have hg : (a < 0) ∨ (¬ a < 0 ∧ c.b ≤ a) ∨ (¬ a < 0 ∧ ¬ c.b ≤ a ∧ a ∈ ll.take k) := by
            by_cases g1 : a < 0
            · exact .inl g1
            · by_cases g2 : c.b ≤ a
              · exact .inr (.inl ⟨g1, g2⟩)
              · rcases g with g | g | g
                · exact absurd g g1
                · exact absurd g g2
                · exact .inr (.inr ⟨g1, g2, g⟩)
          clear g hM hN hR hB hK hk hc hgv hM5 hK5 hB5 ha hct htk
          rcases hg with g1 | ⟨g1, g2⟩ | ⟨g1, g2, g3⟩
          · have hd3 : decide (a < 0) = true := decide_eq_true g1
            go_wp2_with fail
            go_ret
            exact ⟨rfl, HK5.out⟩
          · have hd3 : decide (a < 0) = false := decide_eq_false g1
            have hd4 : decide (c.b ≤ a) = true := decide_eq_true g2
            go_wp2_with fail
            go_ret
            exact ⟨rfl, HK5.out⟩
          · have hd3 : decide (a < 0) = false := decide_eq_false g1
            have hd4 : decide (c.b ≤ a) = false := decide_eq_false g2
            have hd5 : decide (1 < ((ll.take k).count a : Int) + 1) = true := decide_eq_true (by have := List.count_pos_iff.2 g3; omega)
            go_wp2_with fail
            go_ret
            exact ⟨rfl, HK5.out⟩
        · have g1 : ¬ a < 0 := fun h => g (.inl h)
          have g2 : ¬ c.b ≤ a := fun h => g (.inr (.inl h))
          have g3 : a ∉ ll.take k := fun h => g (.inr (.inr h))
          have hd3 : decide (a < 0) = false := decide_eq_false g1
          have hd4 : decide (c.b ≤ a) = false := decide_eq_false g2
          have h0 : (ll.take k).count a = 0 := List.count_eq_zero.2 g3
          have hd5 : decide (1 < ((ll.take k).count a : Int) + 1) = false := decide_eq_false (by omega)
          have ek : IntKind.i64.wrap ((k : Int) + 1) = k + 1 := IntWalk.i64_in _ (by have := HA.out.2.1; omega)
          have HN : Hid ((ll.take (k + 1)).Nodup) := Lib.hid (by
            rw [htk]
            exact List.nodup_append.2 ⟨hN, by simp, fun x hx y hy e => by simp at hy; subst hy; subst e; exact g3 hx⟩)
          have HR : Hid (∀ x ∈ ll.take (k + 1), 0 ≤ x ∧ x < c.b) := Lib.hid (fun x hx => by
            rw [htk] at hx
            rcases List.mem_append.1 hx with hx | hx
            · exact hR x hx
            · simp at hx; subst hx; omega)
          clear g g1 g2 g3 h0 hM hN hR hB hK hk hc hgv hM5 hK5 hB5 ha hct htk
          go_wp2_with fail
          first | exact ⟨⟨_, k + 1, rfl, by simp, hlt, HM5.out, HN.out, HR.out, HB5.out, HK5.out⟩, by simp [intOf]; omega⟩ | (go_roundw; (case rel => exact ⟨_, k + 1, rfl, by simp, hlt, HM5.out, HN.out, HR.out, HB5.out, HK5.out⟩); (case measure => simp [intOf]; omega))
      · obtain rfl : k = ml := by omega
        have htk : ll.take k = ll := List.take_of_length_le (by rw [HLL.out.1]; exact Nat.le_refl _)
        rw [htk] at hN hR
        have HN := Lib.hid hN
        have HR := Lib.hid hR
        have HB := Lib.hid hB
        have HK := Lib.hid hK
        obtain ⟨rl, hrl, erl⟩ := andB_bound top 63 (by decide)
        have er' : bits BinOp.and IntKind.i64 top 63 = (rl : Int) := erl
        have hkb : (k : Int) ≤ c.b := by
          rcases short_of_range HN.out HR.out with h | h
          · rw [HLL.out.1] at h; exact h
          · have e := HLL.out.1; rw [h] at e; have := HC.out.b1; simp at e; omega
        have hb64 := HC.out.bd.b64
        have ew1 : IntKind.i64.wrap (c.b - k) = c.b - k := IntWalk.i64_in _ (by omega)
        have ew2 : IntKind.i64.wrap (c.b - k + 1) = c.b - k + 1 := IntWalk.i64_in _ (by omega)
        have hne : ¬ c.b - k + 1 = 0 := by omega
        have q0 : 0 ≤ (rl : Int) % (c.b - k + 1) := Int.emod_nonneg _ (by omega)
        have q1 : (rl : Int) % (c.b - k + 1) < c.b - k + 1 := Int.emod_lt_of_pos _ (by omega)
        obtain ⟨T, hT⟩ : ∃ T : Nat, (rl : Int) % (c.b - k + 1) = T := ⟨((rl : Int) % (c.b - k + 1)).toNat, by omega⟩
        have hmod : (rl : Int).tmod (c.b - k + 1) = T := (Int.tmod_eq_emod_of_nonneg (by omega)).trans hT
        have HTB : Hid ((T : Int) + k ≤ c.b ∧ T ≤ 64 ∧ k ≤ 8) := Lib.hid ⟨by omega, by omega, HA.out.2.1⟩
        have ewT : IntKind.u64.wrap (T : Int) = T := IntWalk.u64_in _ (by omega)
        have ewk : IntKind.u64.wrap (k : Int) = k := IntWalk.u64_in _ (by have := HTB.out; omega)
        obtain ⟨n, hn⟩ : ∃ n : Nat, (n : Int) = c.t := ⟨c.t.toNat, by have := HC.out.t1; omega⟩
        have HN8 : Hid (1 ≤ n ∧ n ≤ 8 ∧ n ≤ ms ∧ n ≤ cs) := Lib.hid (by have := HC.out.t8; have := HC.out.t1; have := HA.out.1; have := HCS.out; omega)
        have HNT := Lib.hid hn
        obtain ⟨gs, gp, eS, hgs, hcs⟩ := (HLS.out.2.1.kept hK) (by rw [List.length_map, HLS.out.1]; have := HN8.out; omega)
        subst eS
        have hsl := run_u64_h ⟨gs, gp, none⟩ ms cs n c.t hn HN8.out.1 HN8.out.2.2.2
        have HSL := Lib.hid hcs
        have HSN : Hid ((ls.take n).length = n) := Lib.hid (by rw [List.length_take, HLS.out.1]; have := HN8.out; omega)
        obtain ⟨j0, hj0, jz0, jz1, jz2⟩ := info_parts' infoU64
        have cb : Wa.cell? ⟨w.heap.size, 1, none⟩ = some (.int .i64 c.b) := HB.out.cell 1
        have ct : (Wa.alloc (.cells #[] 22)).cell? ⟨w.heap.size, 0, none⟩ = some (.int .i64 c.t) := (HB.out.alloc _).cell 0
        have HG3 : Hid (W3.heap.size ≤ Wa.heap.size) := Lib.hid (Nat.le_of_lt hM.lt)
        have HE0 : Hid (OwnU W3.heap.size w (Wa.alloc (.cells #[] 22)) (.slice (some ⟨Wa.heap.size, 0, none⟩) 0 0) []) := Lib.hid ⟨own_base (own_empty Wa 22 1) (base' := 0) (fun _ _ => Nat.zero_le _), fun x hx => by simp [Value.ownBlock] at hx; have := HG3.out; omega, HK.out.alloc _⟩
        have HSN1 := Lib.hid (fun j u hj => ((Kept.refl (fun _ => False) Wa).alloc (.cells #[] 22)).cell_some (fun h => h) (slU_news HSL.out n j u hj))
        clear hM hN hR hB hK hlt hk htk erl hT q0 q1 hkb hb64 hn hgs hcs
        go_wp2_with (first
          | (at_builtin; refine wpList_append_own_at _ rfl (.tmp 94) (.tmp 98) 63 rfl 0 22 j0 _ 1 8 Try.underlying63 hj0 jz0 jz1 jz2 rfl (by decide) (.slice (some ⟨Wa.heap.size, 0, none⟩) 0 0) 0 [] rfl HE0.out.own ⟨gs, gp, none⟩ n cs (u64L (ls.take n)) rfl (by rw [u64L_len, HSN.out, Nat.mul_one]) HSN1.out (u64L_one _) (by unfold maxLen; have := HN8.out; omega) (by have := HN8.out; omega) (Nat.zero_le _) ?_; intro v1 w6 hown1 hgrow1 _ hat1; (
              obtain ⟨s1, s2, s3⟩ := HE0.out.step (m := ls.take n) (by have := HGE.out; omega) (by simp; have := HG3.out; omega) (Kept.refl _ _) hown1 (by simp [HSN.out]) (by simp [u64L]) hgrow1 hat1
              have H6 := Lib.hid s1
              have HB6 := Lib.hid (s2 _ _ _ HGE.out (HB.out.alloc _))
              have HG6 : Hid (W3.heap.size ≤ w6.heap.size) := Lib.hid (by simp at s3; have := HG3.out; omega)
              clear s1 s2 s3 hown1 hgrow1 hat1))
          | (at_builtin; refine wpList_append_own_at _ rfl (.tmp 100) (.tmp 106) 63 rfl 0 22 j0 _ 1 8 Try.underlying63 hj0 jz0 jz1 jz2 rfl (by decide) v1 _ _ rfl (H6.out.own.alloc _) ⟨w6.heap.size, 0, none⟩ 2 2 [.int .u64 T, .int .u64 k] rfl rfl (news_at _ #[.int .u64 T, .int .u64 k] _ _ rfl) (by simp [Value.oneCell']) (by unfold maxLen; have := HN8.out; simp [HSN.out]; omega) (by have := HN8.out; simp [HSN.out]; omega) (Nat.zero_le _) ?_; intro v2 w7 hown2 hgrow2 _ hat2; (
              obtain ⟨s1, s2, s3⟩ := H6.out.step (m := [(T : Int), (k : Int)]) (by have := HGE.out; omega) HG6.out ((Kept.refl _ _).alloc _) hown2 (by simp [HSN.out]) (by simp [u64L]) hgrow2 hat2
              have H7 := Lib.hid s1
              have HB7 := Lib.hid (s2 _ _ _ HGE.out HB6.out)
              have HG7 : Hid (W3.heap.size ≤ w7.heap.size) := Lib.hid (by have := HG6.out; omega)
              clear s1 s2 s3 hown2 hgrow2 hat2)))
        obtain ⟨l0, hl0⟩ : ∃ q, q = ls.take n ++ [(T : Int), (k : Int)] := ⟨_, rfl⟩
        have HL0 := Lib.hid hl0
        have HLN : Hid (l0.length = n + 2) := Lib.hid (by rw [hl0]; simp [HSN.out])
        clear hl0 cb ct
        go_loopw [12, 110] (fun v i wr => FvRel w c W3.heap.size l0 ll k v i wr) (fun _ i _ => k - (intOf i).toNat)
        case atStart => exact ⟨_, 0, _, rfl, rfl, rfl, Nat.zero_le _, by rw [HL0.out]; simpa using H7.out, HB7.out, HG7.out⟩
        case round =>
          obtain ⟨Wb, j, u, rfl, rfl, rfl, hj, hO, hB, hG⟩ := hrel
          have HO := Lib.hid hO
          have HBb := Lib.hid hB
          have HGb := Lib.hid hG
          by_cases hjk : j < k
          · have hd : decide ((j : Int) < k) = true := decide_eq_true (by omega)
            obtain ⟨a, ha⟩ : ∃ a, ll[j]? = some a := ⟨_, List.getElem?_eq_getElem (by rw [HLL.out.1]; exact hjk)⟩
            obtain ⟨gv, gq, eD, hgv, hc⟩ := (HLL.out.2.1.kept hO.kept) (by rw [List.length_map, HLL.out.1]; omega)
            subst eD
            have c0 : Wb.cell? ⟨gv, gq + j * 1, none⟩ = some (.int .i64 a) := hc j [.int .i64 a] (by rw [List.getElem?_map, ha]; rfl) 0 _ rfl
            rw [Nat.mul_one] at c0
            have HTK : Hid (ll.take (j + 1) = ll.take j ++ [a]) := Lib.hid (by rw [List.take_add_one, ha]; rfl)
            have hab := HR.out a (List.mem_of_getElem? ha)
            have hb64 := HC.out.bd.b64
            have ewa : IntKind.u64.wrap a = a := IntWalk.u64_in _ (by omega)
            have ej : IntKind.i64.wrap ((j : Int) + 1) = j + 1 := IntWalk.i64_in _ (by have := HTB.out; omega)
            have HJL : Hid ((l0 ++ ll.take j).length = n + 2 + j) := Lib.hid (by rw [List.length_append, HLN.out, List.length_take, HLL.out.1, Nat.min_eq_left (by omega)])
            clear hO hB hG ha hgv hc hab hb64 hj
            go_wp2_with (at_builtin; refine wpList_append_own_at _ rfl (.tmp 114) (.tmp 117) 63 rfl 0 22 j0 _ 1 8 Try.underlying63 hj0 jz0 jz1 jz2 rfl (by decide) u _ _ rfl (HO.out.own.alloc _) ⟨Wb.heap.size, 0, none⟩ 1 1 [.int .u64 a] rfl rfl (news_at _ #[.int .u64 a] _ _ rfl) (by simp [Value.oneCell']) (by unfold maxLen; have := HN8.out; rw [HJL.out]; have := HTB.out; omega) (by have := HN8.out; rw [HJL.out]; have := HTB.out; omega) (Nat.zero_le _) ?_; intro v2 w7 hown2 hgrow2 _ hat2; (
              obtain ⟨s1, s2, s3⟩ := HO.out.step (m := [a]) (by have := HGE.out; omega) HGb.out ((Kept.refl _ _).alloc _) hown2 (by simp; omega) (by simp [u64L]) hgrow2 hat2
              have H8 := Lib.hid s1
              have HB8 := Lib.hid (s2 _ _ _ HGE.out HBb.out)
              have HG8 : Hid (W3.heap.size ≤ w7.heap.size) := Lib.hid (by have := HGb.out; omega)
              clear s1 s2 s3 hown2 hgrow2 hat2))
            first | exact ⟨⟨_, j + 1, _, rfl, rfl, by simp, hjk, by rw [HTK.out, ← List.append_assoc]; exact H8.out, HB8.out, HG8.out⟩, by simp [intOf]; omega⟩ | (go_roundw; (case rel => exact ⟨_, j + 1, _, rfl, rfl, by simp, hjk, by rw [HTK.out, ← List.append_assoc]; exact H8.out, HB8.out, HG8.out⟩); (case measure => simp [intOf]; omega))
          · obtain rfl : j = k := by omega
            have htk : ll.take j = ll := List.take_of_length_le (by rw [HLL.out.1]; exact Nat.le_refl _)
            rw [htk] at HO
            have HVL : Hid ((l0 ++ ll).length = n + 2 + j) := Lib.hid (by rw [List.length_append, HLN.out, HLL.out.1])
            have HNA := Lib.hid (show n + 2 + j ≤ 1000 by have := HTB.out; have := HN8.out; omega)
            obtain ⟨N, hN⟩ : ∃ N, n + 2 + j = N := ⟨_, rfl⟩
            obtain ⟨A6, c6, rfl, hS6⟩ := own_u64s HO.out.own
            have HSS := Lib.hid hS6
            have HKO := Lib.hid HO.out.kept
            have hvl := HVL.out
            rw [hN] at hvl HNA
            have HNN := Lib.hid hN
            have HVN := Lib.hid hvl
            have HTM : Hid (min (T : Int) c.b = T) := Lib.hid (by have := HTB.out; omega)
            obtain ⟨stg, hstg⟩ : ∃ q : Int, q = if ll = [] then 3 else 4 := ⟨_, rfl⟩
            have HRD : Hid (readG c (p0 5) ((l0 ++ ll).map outO) 0 = (doneP (ls.take n) ll (T : Int) ll.length stg, N)) := Lib.hid (by
              have h := read_all (c := c) (S := ls.take n) (D := ll) (t := (T : Int)) (by rw [HSN.out]; exact HNT.out) HC.out.t1 (by rw [HLL.out.1]; exact HA.out.2.2)
              rw [HLL.out.1, HTM.out, HSN.out, hN, ← hstg] at h
              rw [HL0.out, h, HLL.out.1])
            have HVB : Hid (∀ v ∈ l0 ++ ll, 0 ≤ v ∧ v ≤ 18446744073709551615) := Lib.hid (fun v hv => by
              have := HTB.out
              have := HC.out.bd.b64
              rcases List.mem_append.1 hv with hv | hv
              · rw [HL0.out] at hv
                rcases List.mem_append.1 hv with hv | hv
                · exact HLS.out.2.2 v (List.mem_of_mem_take hv)
                · simp at hv
                  omega
              · have := HR.out v hv
                omega)
            have hl2 := loadCfg_blk HBb.out
            rw [hvl]
            clear hO hB hG htk hj hjk hS6 hN hstg hvl
            go_wp2_with (first
              | (go_at_call 19; ((with_reducible refine (ofA c HC.out _).mono ?_); rintro e W4 ⟨rfl, hk⟩; (
                  obtain ⟨W5, hst5, hB5, hK5⟩ := stMap10 c W4
                  have HR5 : Hid (RL [(W4.heap.size, 31, mapA c), (w.heap.size, 24, cfgA c)] W5) := Lib.hid ((RL.one (hK5.blk (hk.blk HBb.out (fun h => h)) (fun h => h))).cons hB5)
                  have HK5 := Lib.hid ((HKO.out.trans hk).trans hK5)
                  have HS5 := Lib.hid ((HSS.out.kept hk).kept hK5)
                  clear hk hl2 hB5 hK5))))
            have S5 := Lib.hid (loadMap_arr (HR5.out (W4.heap.size, 31, mapA c) (by simp)).drew rfl)
            have HSD : Hid (SlAt W5.drew A6 1 ((l0 ++ ll).map fun x => [.int .u64 x])) := Lib.hid (HS5.out.kept ((Kept.refl _ _).drew))
            go_region_held3 (fun w' => (loadMap ⟨W4.heap.size, 0, none⟩).run Try.prog w' = .ok (.agg (mapA c)) w')
              (with_reducible (first | exact S8.out | exact S7.out | exact S5.out))
              ((first
                | (go_at_call 47; ((with_reducible refine (cellsA N HVN.out HNA.out HSD.out).mono ?_); rintro e w7 ⟨A7, c7, rfl, hs7, hk7⟩; (have HR7 := Lib.hid (HR5.out.keep (((Kept.refl _ _).drew).trans hk7)); have S7 := Lib.hid (loadMap_arr (HR7.out (W4.heap.size, 31, mapA c) (by simp)) rfl); have HS7 := Lib.hid hs7; have HK7 := Lib.hid (HK5.out.drew.trans hk7); clear hs7 hk7)))
                | (go_at_call 25; ((with_reducible refine (read_calls (m := N) c HC.out.bd 5 (L := (l0 ++ ll).map outO) (by rw [List.length_map, HVN.out]) HNA.out HS7.out (out_bd _ HVB.out)).mono ?_); rw [HRD.out]; rintro e w8 ⟨B, mb, n2, lv, rfl, h5, hn5, hf5, hk5, ho5⟩; (have H8 : Hid (PoS w8 B mb lv c (doneP (ls.take n) ll (T : Int) ll.length stg) n2) := Lib.hid h5; have HR8 := Lib.hid (HR7.out.keep hk5); have S8 := Lib.hid (loadMap_arr (HR8.out (W4.heap.size, 31, mapA c) (by simp)) rfl); have HK8 := Lib.hid (HK7.out.trans hk5); have HO8 := Lib.hid (old_of HK7.out HR7.out ho5); clear h5 hn5 hf5 hk5 ho5)))))
            obtain ⟨s, hs⟩ : ∃ q, q = stL c 200 (ls.take n) 0 ⟨0, (T : Int), []⟩ ll := ⟨_, rfl⟩
            have HFD : Hid (FrD c (ls.take n) ll (T : Int) s) := Lib.hid (by
              rw [hs]
              exact fr_done HC.out.bd HR.out (by omega) (by rw [HLL.out.1]; exact HTB.out.1) (by rw [HLL.out.1]; exact HA.out.2.2) (by rw [HLL.out.1]; exact HTB.out.2.2))
            have HSE := Lib.hid ((fr_settle (c := c) (S := ls.take n) (l := ll) (t := (T : Int)) (g := stg)).trans (by rw [← hs]))
            have HQ1 : Hid (0 ≤ (doneP (ls.take n) ll (T : Int) ll.length stg).nt ∧ (doneP (ls.take n) ll (T : Int) ll.length stg).nt ≤ c.b) := Lib.hid (by show 0 ≤ (T : Int) ∧ (T : Int) ≤ c.b; have := HTB.out; omega)
            have HQ2 : Hid ((doneP (ls.take n) ll (T : Int) ll.length stg).lm.length ≤ 1000) := Lib.hid (by show ll.length ≤ 1000; rw [HLL.out.1]; have := HTB.out; omega)
            have HQ3 : Hid (∀ a ∈ (doneP (ls.take n) ll (T : Int) ll.length stg).lm, 0 ≤ a ∧ a ≤ 18446744073709551615) := Lib.hid (fun a ha => HVB.out a (List.mem_append_right _ ha))
            obtain ⟨P1, hP1⟩ : ∃ q : PoD, ({ doneP (ls.take n) ll (T : Int) ll.length stg with sd := true, nt := s.nt, nl := s.stay } : PoD) = q := ⟨_, rfl⟩
            have HP1 : Hid (P1.nt = s.nt ∧ P1.nl = s.stay) := Lib.hid (by rw [← hP1]; exact ⟨rfl, rfl⟩)
            have HSF := Lib.hid (HSE.out.trans (by rw [hP1]))
            clear HSE hP1
            have hnn : ((N : Int) != (N : Int)) = false := by simp
            clear hs
            go_wp2_with (first
              | (go_at_call 23; ((with_reducible refine (statusP_calls H8.out).mono ?_); rintro e w9 ⟨rfl, rfl⟩; dsimp only [doneP]))
              | (go_at_call 26; ((with_reducible refine (PY.make H8.out HK8.out HO8.out HR8.out 200).mono ?_); rintro e w9 ⟨b, rfl, h6⟩; have H9 : Hid (PY [(W4.heap.size, 31, mapA c), (w.heap.size, 24, cfgA c)] w w9 B mb lv c (doneP (ls.take n) ll (T : Int) ll.length stg) n2 b 200 [] 0) := Lib.hid h6; clear h6))
              | (go_at_call 28; ((with_reducible refine (H9.out.settle HC.out.bd HQ1.out HQ2.out HQ3.out (by decide)).mono ?_); rw [HSF.out]; rintro e w10 ⟨rfl, h8⟩; have H10 : Hid (PY [(W4.heap.size, 31, mapA c), (w.heap.size, 24, cfgA c)] w w10 B mb lv c P1 n2 b 200 s.ps 16) := Lib.hid (h8.upk (by show 0 + 2 * ll.length ≤ 16; rw [HLL.out.1]; have := HTB.out; omega)); clear h8)))
            obtain ⟨q0, hq0, qz0, qz1, qz2⟩ := info_parts' infoI64
            have HE1 : Hid (OwnI w10.heap.size w10 (w10.alloc (.cells #[] 3)) (.slice (some ⟨w10.heap.size, 0, none⟩) 0 0) []) := Lib.hid ⟨own_base (own_empty w10 3 1) (base' := 0) (fun _ _ => Nat.zero_le _), fun x hx => by simp [Value.ownBlock] at hx; omega, (Kept.refl _ _).alloc _⟩
            obtain ⟨S, hS⟩ : ∃ q, ls.take n = q := ⟨_, rfl⟩
            rw [hS] at HFD HSN
            have HSL2 := Lib.hid hS
            clear hS
            go_loopw [20, 21, 148] (fun v f i wr => FwRel w10 S ll j v f i wr) (fun _ _ i _ => j - (intOf i).toNat)
            case atStart => exact ⟨_, 0, _, rfl, rfl, rfl, rfl, Nat.zero_le _, HE1.out⟩
            case round =>
              obtain ⟨Wc, k, u, rfl, rfl, rfl, rfl, hk, hO⟩ := hrel
              have HO3 := Lib.hid hO
              have HY := Lib.hid (H10.out.keep hO.kept)
              have HKj := Lib.hid hk
              by_cases hkj : k < j
              · have hd : decide ((k : Int) < j) = true := decide_eq_true (by omega)
                obtain ⟨a, ha⟩ : ∃ a, ll[k]? = some a := ⟨_, List.getElem?_eq_getElem (by rw [HLL.out.1]; exact hkj)⟩
                obtain ⟨gv, gq, eD, hgv, hc⟩ := (HLL.out.2.1.kept HY.out.kept) (by rw [List.length_map, HLL.out.1]; omega)
                subst eD
                have c0 : Wc.cell? ⟨gv, gq + k * 1, none⟩ = some (.int .i64 a) := hc k [.int .i64 a] (by rw [List.getElem?_map, ha]; rfl) 0 _ rfl
                rw [Nat.mul_one] at c0
                have ct : Wc.cell? ⟨w.heap.size, 0, none⟩ = some (.int .i64 c.t) := Blk.cell (PY.blk (x := (w.heap.size, 24, cfgA c)) HY.out (by simp)) 0
                have HA3 := Lib.hid ha
                have HAB := Lib.hid (HR.out a (List.mem_of_getElem? ha))
                have HKJ := Lib.hid hkj
                clear hO hk hc hgv ha
                go_wp2_with fail
                go_loopw [24, 157] (fun v i wr => FnRel Wc a S n v i wr) (fun _ i _ => n - (intOf i).toNat)
                case atStart => exact ⟨_, 0, false, rfl, rfl, by simp, rfl, Nat.zero_le _, Kept.refl _ _⟩
                case round =>
                  obtain ⟨Wd, q, nb, rfl, rfl, hnb, rfl, hq, hKd⟩ := hrel
                  have HNB := Lib.hid hnb
                  have HKD := Lib.hid hKd
                  by_cases hqn : q < n
                  · have hd2 : decide ((q : Int) < c.t) = true := decide_eq_true (by have := HNT.out; omega)
                    have hd3 : decide ((q : Int) < n) = true := decide_eq_true (by omega)
                    obtain ⟨e, he⟩ : ∃ e, ls[q]? = some e := ⟨_, List.getElem?_eq_getElem (by rw [HLS.out.1]; have := HN8.out; omega)⟩
                    obtain ⟨gs2, gp2, e2, hg2, hc2⟩ := (HLS.out.2.1.kept (HY.out.kept.trans HKD.out)) (by rw [List.length_map, HLS.out.1]; have := HN8.out; omega)
                    injection e2 with e2
                    injection e2 with e3 e4
                    have c1 : Wd.cell? ⟨gs, gp + q * 1, none⟩ = some (.int .u64 e) := by rw [e3, e4]; exact hc2 q [.int .u64 e] (by rw [List.getElem?_map, he]; rfl) 0 _ rfl
                    rw [Nat.mul_one] at c1
                    have hSq : S[q]? = some e := by rw [← HSL2.out, List.getElem?_take, if_pos hqn, he]
                    have htk : S.take (q + 1) = S.take q ++ [e] := by rw [List.take_add_one, hSq]; rfl
                    have HNX : Hid ((nb || (e == a + 1)) = decide ((a + 1) ∈ S.take (q + 1))) := Lib.hid (by
                      rw [htk, hnb]
                      by_cases x1 : (a + 1) ∈ S.take q
                      · simp [x1]
                      · by_cases x2 : e = a + 1
                        · subst x2; simp
                        · have x3 : ¬ a + 1 = e := fun h => x2 h.symm
                          simp [x1, x2, x3])
                    have HQN := Lib.hid hqn
                    have hab := HAB.out
                    have hb64 := HC.out.bd.b64
                    have ewa : IntKind.u64.wrap a = a := IntWalk.u64_in _ (by omega)
                    have ewa1 : IntKind.u64.wrap (a + 1) = a + 1 := IntWalk.u64_in _ (by omega)
                    have eq1 : IntKind.i64.wrap ((q : Int) + 1) = q + 1 := IntWalk.i64_in _ (by have := HN8.out; omega)
                    clear hab hb64 hnb htk hSq hc2 hg2 e3 e4 he hKd hq hqn
                    cases nb with
                    | true =>
                      go_wp2_with fail
                      first | exact ⟨⟨_, q + 1, true, rfl, rfl, by rw [← HNX.out]; rfl, by simp, HQN.out, HKD.out⟩, by simp [intOf]; have := HQN.out; omega⟩ | (go_roundw; (case rel => exact ⟨_, q + 1, true, rfl, rfl, by rw [← HNX.out]; rfl, by simp, HQN.out, HKD.out⟩); (case measure => simp [intOf]; have := HQN.out; omega))
                    | false =>
                      go_wp2_with fail
                      first | exact ⟨⟨_, q + 1, (e == a + 1), rfl, rfl, by rw [← HNX.out]; rfl, by simp, HQN.out, HKD.out⟩, by simp [intOf]; have := HQN.out; omega⟩ | (go_roundw; (case rel => exact ⟨_, q + 1, (e == a + 1), rfl, rfl, by rw [← HNX.out]; rfl, by simp, HQN.out, HKD.out⟩); (case measure => simp [intOf]; have := HQN.out; omega))
                  · obtain rfl : q = n := by omega
                    have hSS : S.take q = S := List.take_of_length_le (by rw [HSN.out]; exact Nat.le_refl _)
                    rw [hSS] at hnb
                    have hb64 := HC.out.bd.b64
                    have hab := HAB.out
                    have HY2 := Lib.hid (HY.out.keep HKD.out)
                    have HO4 := Lib.hid (HO3.out.keep HKD.out)
                    have ewa : IntKind.u64.wrap a = a := IntWalk.u64_in _ (by omega)
                    have HKK : Hid (k ≤ 8 ∧ j ≤ 8) := Lib.hid (by have := HTB.out; have := HKJ.out; omega)
                    have ek : IntKind.i64.wrap ((k : Int) + 1) = k + 1 := IntWalk.i64_in _ (by have := HKK.out; omega)
                    have hl := loadMap_arr (PY.blk (x := (W4.heap.size, 31, mapA c)) HY2.out (by simp)) rfl
                    by_cases hz : S.count (a + 1) = 0
                    · have hnm : nb = false := by rw [hnb]; exact decide_eq_false (List.count_eq_zero.1 hz)
                      subst hnm
                      have HG0 : Hid (getV s.ps (c.at_ 11 a 0) = .tuple #[.int .u64 0, .bool true]) := Lib.hid (by
                        unfold getV
                        rw [HFD.out.life a HAB.out.1 HAB.out.2, if_pos ⟨List.mem_of_getElem? HA3.out, hz⟩]
                        rfl)
                      have HST := Lib.hid (HFD.out.stack _ a (goes_at HA3.out hz))
                      have HGS : Hid (goes S (ll.take (k + 1)) = goes S (ll.take k) ++ [a] ∧ stays S (ll.take (k + 1)) = stays S (ll.take k)) := Lib.hid (by
                        rw [List.take_add_one, HA3.out]
                        exact ⟨(goes_snoc _ _ _).trans (if_pos hz), (stays_snoc _ _ _).trans (if_pos hz)⟩)
                      obtain ⟨fr, hfr⟩ : ∃ q, (goes S (ll.take k)).length = q := ⟨_, rfl⟩
                      have HFR := Lib.hid hfr
                      have hfr8 : fr ≤ 8 := by
                        have := goes_len S (ll.take k)
                        rw [List.length_take] at this
                        have := HKK.out
                        omega
                      have HG1 : Hid (getV s.ps (c.at_ 13 ((T : Int) + fr) 0) = .tuple #[.int .u64 a, .bool true]) := Lib.hid (by
                        unfold getV
                        rw [← hfr, HST.out]
                        rfl)
                      have eft : IntKind.i64.wrap ((T : Int) + fr) = T + fr := IntWalk.i64_in _ (by have := HTB.out; omega)
                      have ef1 : IntKind.i64.wrap ((fr : Int) + 1) = fr + 1 := IntWalk.i64_in _ (by omega)
                      have haa : (a != a) = false := by simp
                      rw [hfr]
                      clear hnb hz hfr hab hb64 hKd hSS hfr8
                      go_wp2_with (first
                        | (go_at_call 49; ((with_reducible refine (atK_calls c HC.out.bd 11 a 0 _).mono ?_); rintro e w11 ⟨rfl, hk⟩; have H11 := Lib.hid (HY2.out.keep hk); have HO5 := Lib.hid (HO4.out.keep hk); clear hk hl))
                        | (go_at_call 48; ((with_reducible refine (H11.out.get _ (at_i64 HC.out.bd _ _ _)).mono ?_); rw [HG0.out]; rintro e w12 ⟨rfl, rfl⟩; have hl := loadMap_arr (PY.blk (x := (W4.heap.size, 31, mapA c)) H11.out (by simp)) rfl))
                        | (go_at_call 49; ((with_reducible refine (atK_calls c HC.out.bd 13 ((T : Int) + fr) 0 _).mono ?_); rintro e w13 ⟨rfl, hk⟩; have H13 := Lib.hid (H11.out.keep hk); have HO6 := Lib.hid (HO5.out.keep hk); clear hk hl))
                        | (go_at_call 48; ((with_reducible refine (H13.out.get _ (at_i64 HC.out.bd _ _ _)).mono ?_); rw [HG1.out]; rintro e w14 ⟨rfl, rfl⟩)))
                      first | exact ⟨⟨_, k + 1, _, rfl, rfl, by rw [HGS.out.1]; simp [HFR.out], by simp, HKJ.out, by rw [HGS.out.2]; exact HO6.out⟩, by simp [intOf]; have := HKJ.out; omega⟩ | (go_roundw; (case rel => exact ⟨_, k + 1, _, rfl, rfl, by rw [HGS.out.1]; simp [HFR.out], by simp, HKJ.out, by rw [HGS.out.2]; exact HO6.out⟩); (case measure => simp [intOf]; have := HKJ.out; omega))
                    · have hnm : nb = true := by rw [hnb]; exact decide_eq_true (List.count_pos_iff.1 (Nat.pos_of_ne_zero hz))
                      subst hnm
                      have HG0 : Hid (getV s.ps (c.at_ 11 a 0) = .tuple #[.int .u64 0, .bool false]) := Lib.hid (by
                        unfold getV
                        rw [HFD.out.life a HAB.out.1 HAB.out.2, if_neg (fun h => hz h.2)]
                        rfl)
                      have HGS : Hid (goes S (ll.take (k + 1)) = goes S (ll.take k) ∧ stays S (ll.take (k + 1)) = stays S (ll.take k) ++ [a]) := Lib.hid (by
                        rw [List.take_add_one, HA3.out]
                        exact ⟨(goes_snoc _ _ _).trans (if_neg hz), (stays_snoc _ _ _).trans (if_neg hz)⟩)
                      have HSK : Hid ((stays S (ll.take k)).length ≤ 8) := Lib.hid (by
                        have := goes_len S (ll.take k)
                        rw [List.length_take] at this
                        have := HKK.out
                        omega)
                      clear hnb hz hab hb64 hKd hSS
                      go_wp2_with (first
                        | (go_at_call 49; ((with_reducible refine (atK_calls c HC.out.bd 11 a 0 _).mono ?_); rintro e w11 ⟨rfl, hk⟩; have H11 := Lib.hid (HY2.out.keep hk); have HO5 := Lib.hid (HO4.out.keep hk); clear hk hl))
                        | (go_at_call 48; ((with_reducible refine (H11.out.get _ (at_i64 HC.out.bd _ _ _)).mono ?_); rw [HG0.out]; rintro e w12 ⟨rfl, rfl⟩; have hl := loadMap_arr (PY.blk (x := (W4.heap.size, 31, mapA c)) H11.out (by simp)) rfl))
                        | (at_builtin; refine wpList_append_own_at _ rfl (.tmp 189) (.tmp 191) 101 rfl 0 3 q0 _ 1 8 Try.underlying101 hq0 qz0 qz1 qz2 rfl (by decide) u _ _ rfl (HO5.out.own.alloc _) ⟨w11.heap.size, 0, none⟩ 1 1 [.int .i64 a] rfl rfl (news_at _ #[.int .i64 a] _ _ rfl) (by simp [Value.oneCell']) (by unfold maxLen; have := HSK.out; omega) (by have := HSK.out; omega) (Nat.zero_le _) ?_; intro v2 w7 hown2 hgrow2 _ hat2; (
              obtain ⟨s1, s2, s3⟩ := HO5.out.step (m := [a]) (Nat.le_refl _) HO5.out.kept.size ((Kept.refl _ _).alloc _) hown2 (by simp) (by simp [i64L]) hgrow2 hat2
              have HO6 := Lib.hid s1
              clear s1 s2 s3 hown2 hgrow2 hat2)))
                      first | exact ⟨⟨_, k + 1, _, rfl, rfl, by rw [HGS.out.1], by simp, HKJ.out, by rw [HGS.out.2]; exact HO6.out⟩, by simp [intOf]; have := HKJ.out; omega⟩ | (go_roundw; (case rel => exact ⟨_, k + 1, _, rfl, rfl, by rw [HGS.out.1], by simp, HKJ.out, by rw [HGS.out.2]; exact HO6.out⟩); (case measure => simp [intOf]; have := HKJ.out; omega))
              · obtain rfl : k = j := by omega
                have htl : ll.take k = ll := List.take_of_length_le (by rw [HLL.out.1]; exact Nat.le_refl _)
                rw [htl] at hO
                obtain ⟨A9, c9, rfl, hS9⟩ := own_i64s hO.own
                have HS9 := Lib.hid hS9
                obtain ⟨KL, hKL⟩ : ∃ q, (stays S ll).length = q := ⟨_, rfl⟩
                obtain ⟨FL, hFL⟩ : ∃ q, (goes S ll).length = q := ⟨_, rfl⟩
                have HKL := Lib.hid hKL
                have HFL := Lib.hid hFL
                have hgl := goes_len S ll
                rw [hKL, hFL, HLL.out.1] at hgl
                have HSM := Lib.hid hgl
                have HKT : Hid (decide ((KL : Int) ≤ c.t) = true) := Lib.hid (decide_eq_true (by
                  have := stays_few (S := S) HN.out
                  rw [HSN.out, hKL] at this
                  have := HNT.out
                  omega))
                rw [htl, hFL, hKL]
                clear hO hS9 hKL hFL hgl htl hk hkj HO3
                go_wp2_with fail
                go_loopw [216] (fun i wr => FkRel Wc KL i wr) (fun i _ => KL - (intOf i).toNat)
                case atStart => exact ⟨_, 0, rfl, rfl, Nat.zero_le _, Kept.refl _ _⟩
                case round =>
                  obtain ⟨Wd, q, rfl, rfl, hq, hKd⟩ := hrel
                  have HKD := Lib.hid hKd
                  have HY2 := Lib.hid (HY.out.keep hKd)
                  by_cases hqk : q < KL
                  · have hd2 : decide ((q : Int) < KL) = true := decide_eq_true (by omega)
                    obtain ⟨a, ha⟩ : ∃ a, (stays S ll)[q]? = some a := ⟨_, List.getElem?_eq_getElem (by rw [HKL.out]; exact hqk)⟩
                    obtain ⟨gk, gkp, eD, hgk, hc⟩ := (HS9.out.kept hKd) (by rw [List.length_map, HKL.out]; omega)
                    subst eD
                    have c0 : Wd.cell? ⟨gk, gkp + q * 1, none⟩ = some (.int .i64 a) := hc q [.int .i64 a] (by rw [List.getElem?_map, ha]; rfl) 0 _ rfl
                    rw [Nat.mul_one] at c0
                    have hal : a ∈ ll := (List.mem_filter.1 (List.mem_of_getElem? ha)).1
                    have hab := HR.out a hal
                    have hb64 := HC.out.bd.b64
                    have ewa : IntKind.u64.wrap a = a := IntWalk.u64_in _ (by omega)
                    have haa : (a != a) = false := by simp
                    have HQK := Lib.hid hqk
                    have eq1 : IntKind.i64.wrap ((q : Int) + 1) = q + 1 := IntWalk.i64_in _ (by have := HTB.out; have := HSM.out; omega)
                    have hl := loadMap_arr (PY.blk (x := (W4.heap.size, 31, mapA c)) HY2.out (by simp)) rfl
                    rcases HFD.out.limbo q a ha with hlk | ⟨hlk, hlq⟩
                    · have HG0 : Hid (getV s.ps (c.at_ 15 (q : Int) 0) = .tuple #[.int .u64 a, .bool true]) := Lib.hid (by
                        unfold getV
                        rw [hlk]
                        rfl)
                      clear hlk hal hab hb64 hc hgk ha hqk hq hKd
                      go_wp2_with (first
                        | (go_at_call 49; ((with_reducible refine (atK_calls c HC.out.bd 15 (q : Int) 0 _).mono ?_); rintro e w11 ⟨rfl, hk⟩; have H11 := Lib.hid (HY2.out.keep hk); have HK11 := Lib.hid (HKD.out.trans hk); clear hk hl))
                        | (go_at_call 48; ((with_reducible refine (H11.out.get _ (at_i64 HC.out.bd _ _ _)).mono ?_); rw [HG0.out]; rintro e w12 ⟨rfl, rfl⟩)))
                      first | exact ⟨⟨_, q + 1, rfl, by simp, HQK.out, HK11.out⟩, by simp [intOf]; have := HQK.out; omega⟩ | (go_roundw; (case rel => exact ⟨_, q + 1, rfl, by simp, HQK.out, HK11.out⟩); (case measure => simp [intOf]; have := HQK.out; omega))
                    · have HG0 : Hid (getV s.ps (c.at_ 15 (q : Int) 0) = .tuple #[.int .u64 0, .bool false]) := Lib.hid (by
                        unfold getV
                        rw [hlk]
                        rfl)
                      obtain ⟨gv, gq, eD, hgv, hcv⟩ := (HLL.out.2.1.kept HY2.out.kept) (by rw [List.length_map, HLL.out.1]; have := HSM.out; omega)
                      subst eD
                      have HCV : Hid (Wd.cell? ⟨gv, gq + q, none⟩ = some (.int .i64 a)) := Lib.hid (by
                        have := hcv q [.int .i64 a] (by rw [List.getElem?_map, hlq]; rfl) 0 _ rfl
                        rwa [Nat.mul_one] at this)
                      have hqll : q < k := by have := HSM.out; omega
                      clear hlk hal hab hb64 hc hgk ha hqk hq hKd hcv hgv hlq
                      go_wp2_with (first
                        | (go_at_call 49; ((with_reducible refine (atK_calls c HC.out.bd 15 (q : Int) 0 _).mono ?_); rintro e w11 ⟨rfl, hk⟩; have H11 := Lib.hid (HY2.out.keep hk); have HK11 := Lib.hid (HKD.out.trans hk); have cv := hk.cell_some (fun h => h) HCV.out; clear hk hl))
                        | (go_at_call 48; ((with_reducible refine (H11.out.get _ (at_i64 HC.out.bd _ _ _)).mono ?_); rw [HG0.out]; rintro e w12 ⟨rfl, rfl⟩)))
                      first | exact ⟨⟨_, q + 1, rfl, by simp, HQK.out, HK11.out⟩, by simp [intOf]; have := HQK.out; omega⟩ | (go_roundw; (case rel => exact ⟨_, q + 1, rfl, by simp, HQK.out, HK11.out⟩); (case measure => simp [intOf]; have := HQK.out; omega))
                  · obtain rfl : q = KL := by omega
                    have ct : Wd.cell? ⟨w.heap.size, 0, none⟩ = some (.int .i64 c.t) := Blk.cell (PY.blk (x := (w.heap.size, 24, cfgA c)) HY2.out (by simp)) 0
                    have hkt := HKT.out
                    have HMK : Hid (P1.nt = (T : Int) + FL ∧ P1.nl = q) := Lib.hid (by
                      obtain ⟨x1, x2⟩ := HP1.out
                      have x3 := HFD.out.nt
                      have x4 := HFD.out.stay
                      rw [HFL.out] at x3
                      rw [HKL.out] at x4
                      rw [x1, x2, x3, x4]
                      exact ⟨rfl, rfl⟩)
                    have eft : IntKind.i64.wrap ((T : Int) + FL) = T + FL := IntWalk.i64_in _ (by have := HTB.out; have := HSM.out; omega)
                    have hme := run_mark_eql ((T : Int) + FL) q
                    clear hq hKd hqk
                    go_wp2_with (first
                      | (go_at_call 30; ((with_reducible refine (markX HY2.out.pool HMK.out.1 HMK.out.2).mono ?_); rintro e w16 ⟨rfl, hk⟩; have H16 := Lib.hid (HY2.out.keep hk); clear hk)))
                    go_ret
                    exact ⟨rfl, H16.out.kept⟩
  · have HD := Lib.hid (decide_eq_false hok)
    clear hok
    unfold cfgV
    go_enter Try.func6, Try.ntmps6
    go_wp2_with (first
      | (go_at_call 18; ((with_reducible refine (alive10_calls _).mono ?_); rintro e w1 ⟨rfl, hk⟩; have HK1 := Lib.hid (HK0.out.trans hk); have HB1 := Lib.hid (hk.blk HB0.out (fun h => h)); have hl1 := loadCfg_blk HB1.out; clear hk))
      | (go_at_call 10; ((with_reducible refine (right7 c _).mono ?_); rintro e w2 ⟨rfl, hk⟩; rw [HD.out]; have HK2 := Lib.hid (HK1.out.trans hk); have HB2 := Lib.hid (hk.blk HB1.out (fun h => h)); have hl2 := loadCfg_blk HB2.out; have ct2 : w2.cell? ⟨w.heap.size, 0, none⟩ = some (.int .i64 c.t) := HB2.out.cell 0; have cb2 : w2.cell? ⟨w.heap.size, 1, none⟩ = some (.int .i64 c.b) := HB2.out.cell 1; clear hk hl1)))
    go_ret
    exact ⟨rfl, HK2.out⟩
end Go.Proofs.Ythjkodjpopcjaaa
