/- A pool, a set, and blocks beside them as a list; law 10's sample. -/
import Derived.Test.YthjkodjpopcjaaaPoJ
import Derived.Test.YthjkodjpopcjaaaVwL
namespace Go.Proofs.Ythjkodjpopcjaaa
open Go.RowKit Go.Maps
attribute [local go_sem ↓] loadMap_eq

abbrev BlkL := List (Nat × TypeId × Array Value)
def GL (L : BlkL) (x : Nat) : Prop := ∃ e ∈ L, e.1 = x
def RL (L : BlkL) (W : World) : Prop := ∀ e ∈ L, Blk W e.1 e.2.1 e.2.2
theorem RL.stays (L : BlkL) (a c : World) (h : RL L a) (k : Kept (fun x => ¬ GL L x) a c) : RL L c := fun e he => k.blk (h e he) (fun hn => hn ⟨e, he, rfl⟩)
theorem RL.keep {L : BlkL} {a c : World} (h : RL L a) (k : Kept (fun _ => False) a c) : RL L c := fun e he => k.blk (h e he) (fun hn => hn)
theorem RL.lt {L : BlkL} {a : World} (h : RL L a) {x : Nat} (hx : GL L x) : x < a.heap.size := by
  obtain ⟨e, he, rfl⟩ := hx
  exact (h e he).lt
theorem RL.cons {L : BlkL} {a : World} (h : RL L a) {g : Nat} {t : TypeId} {cs : Array Value} (hb : Blk a g t cs) : RL ((g, t, cs) :: L) a := fun e he => by
  rcases List.mem_cons.1 he with rfl | he
  · exact hb
  · exact h e he
/-- A pool, a set, and blocks beside them. -/
abbrev PY (L : BlkL) (w0 w : World) (B mb : Nat) (lv : Value) (c : CfgD) (p : PoD) (n b : Nat) (r : Int) (ps : List (Int × Int)) (k : Nat) : Prop := PX (GL L) (RL L) w0 w B mb lv c p n b r ps k
section
variable {L M : BlkL} {w0 w w' : World} {B mb : Nat} {lv : Value} {c : CfgD} {p : PoD} {n b : Nat} {r : Int} {ps : List (Int × Int)} {k : Nat}
theorem PY.more (h : PY L w0 w B mb lv c p n b r ps k) (t : TypeId) (cs : Array Value) : PY ((w.heap.size, t, cs) :: L) w0 (w.alloc (.cells cs t)) B mb lv c p n b r ps k := by
  have h1 := h.keep ((Kept.refl _ w).alloc (.cells cs t))
  have hg : ∀ x, GL ((w.heap.size, t, cs) :: L) x → x = w.heap.size ∨ GL L x := fun x hx => by
    obtain ⟨e, he, rfl⟩ := hx
    rcases List.mem_cons.1 he with rfl | he
    · exact .inl rfl
    · exact .inr ⟨e, he, rfl⟩
  have hs := (h.set.mono (G := fun x => w0.heap.size ≤ x ∧ ¬ PF B mb lv x ∧ ¬ GL ((w.heap.size, t, cs) :: L) x) (fun x hx hF => ⟨hF.1, hF.2.1, fun g => by
    rcases hg x g with rfl | g
    · exact absurd hx (Nat.lt_irrefl _)
    · exact hF.2.2 g⟩)).keep ((Kept.refl _ w).alloc (.cells cs t))
  refine ⟨h1.pool, hs, h1.kept, fun x hx => ⟨(h.old x hx).1, fun g => ?_⟩, fun x hx => ?_, h1.holds.cons (Blk.new _ _ _), RL.stays _, h.len, h.wf⟩
  · rcases hg x g with rfl | g
    · exact absurd (h.pool.lt hx) (Nat.lt_irrefl _)
    · exact (h.old x hx).2 g
  · rcases hg x hx with rfl | g
    · simp
    · exact h1.low x g
theorem PY.sub (h : PY L w0 w B mb lv c p n b r ps k) (hs : ∀ x ∈ M, x ∈ L) : PY M w0 w B mb lv c p n b r ps k :=
  h.weak (fun x ⟨e, he, hx⟩ => ⟨e, hs e he, hx⟩) (fun e he => h.holds e (hs e he)) (RL.stays _)
theorem PY.blk (h : PY L w0 w B mb lv c p n b r ps k) {x : Nat × TypeId × Array Value} (hx : x ∈ L) : Blk w x.1 x.2.1 x.2.2 := h.holds x hx
theorem PY.make (hp : PoS w B mb lv c p n) (kk : Kept (fun _ => False) w0 w) (ho : ∀ x, PF B mb lv x → w0.heap.size ≤ x ∧ ¬ GL L x) (hL : RL L w) (room : Int) :
    Calls Try.prog 26 #[.int .i64 room] w fun e w' => ∃ b, e = .returned (.pointer (some ⟨b, 0, none⟩)) ∧ PY L w0 w' B mb lv c p n b (roomOf room) [] 0 :=
  (new_calls room w).mono fun _ _ ⟨b, h1, h2, h3⟩ => ⟨b, h1, hp.keep h3,
    h2.mono (fun x _ hx => ⟨Nat.le_trans kk.size hx, fun hp' => by have := hp.lt hp'; omega, fun g => by have := hL.lt g; omega⟩), kk.trans h3, ho, fun x hx => Nat.lt_of_lt_of_le (hL.lt hx) h3.size, hL.keep h3, RL.stays _, Nat.le_refl _, fun _ h => by cases h⟩
end
theorem sample10_calls (w : World) : Calls Try.prog 64 #[] w fun e w' => e = .returned (.agg (cfgA ⟨2, 3, 4, 50, 5, 99⟩)) ∧ Kept (fun _ => False) w w' := by
  unfold cfgA
  go_enter Try.func64, Try.ntmps64
  go_wp2_with fail
  exact bodyPost_ret (v := .agg _) (results_cell_row rfl _ _ w.heap.size 24 _ (0, 0) _ rfl (Blk.new' _ _ _ _ (by simp)) Try.underlying24 rfl (by kernel_rfl)) rfl ⟨rfl, (Kept.refl _ _).alloc _⟩
theorem stMap10 (c : CfgD) (w : World) : ∃ w', (stV 31 ⟨w.heap.size, 0, none⟩ (.agg (mapA c))).run Try.prog (w.alloc (.cells #[.int .i64 0, .int .i64 0, .int .i64 0, .int .i64 0, .int .u64 0, .int .u64 0, .int .i64 0, .int .i64 0, .int .i64 0, .int .i64 0, .int .i64 0, .int .i64 0, .int .i64 0, .int .i64 0, .int .i64 0, .int .i64 0, .int .i64 0, .int .i64 0, .int .i64 0, .int .i64 0, .int .i64 0, .int .i64 0, .int .i64 0] 31)) = .ok () w' ∧ Blk w' w.heap.size 31 (mapA c) ∧ Kept (fun _ => False) w w' := by
  obtain ⟨w', h1, h2, h3⟩ := stV_blk (ty := 31) (cells := mapA c) (Blk.new w 31 #[.int .i64 0, .int .i64 0, .int .i64 0, .int .i64 0, .int .u64 0, .int .u64 0, .int .i64 0, .int .i64 0, .int .i64 0, .int .i64 0, .int .i64 0, .int .i64 0, .int .i64 0, .int .i64 0, .int .i64 0, .int .i64 0, .int .i64 0, .int .i64 0, .int .i64 0, .int .i64 0, .int .i64 0, .int .i64 0, .int .i64 0]) (by kernel_rfl) rfl (mapA_one c)
  exact ⟨w', h1, h2, Kept.fresh9 ((Kept.refl _ w).alloc _) h3 (Nat.le_refl _)⟩
/-- Replies are read behind a row that was just made. -/
theorem SlAt.news {w : World} {t : TypeId} {vs : List Int} {cs : Array Value} (h : cs = (vs.map fun x => Value.int .u64 x).toArray) : SlAt (w.alloc (.cells cs t)) (some ⟨w.heap.size, 0, none⟩) 1 (vs.map fun x => [.int .u64 x]) := fun _ => ⟨w.heap.size, 0, rfl, by simp, fun k cs' hk j u hj => by
  rw [List.getElem?_map] at hk
  cases hs : vs[k]? with
  | none => rw [hs] at hk; cases hk
  | some o =>
    rw [hs] at hk
    cases hk
    have hj2 : j < 1 := by have := (List.getElem?_eq_some_iff.1 hj).1; simpa using this
    obtain rfl : j = 0 := by omega
    rw [Nat.zero_add, Nat.mul_one, Nat.add_zero, Blk.cell (Blk.new w t cs) k, h]
    simp [hs]
    simpa using hj⟩
end Go.Proofs.Ythjkodjpopcjaaa
