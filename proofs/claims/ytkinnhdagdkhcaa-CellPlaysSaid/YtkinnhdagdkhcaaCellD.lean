/- Layer 1 (cell): Do. -/
import Derived.Test.YtkinnhdagdkhcaaCellC
import Derived.Deep.DeepCutAuto
import Derived.Deep.RegionHeld3
namespace Go.Proofs.Ytkinnhdagdkhcaa
open Go.RowKit

theorem hsz2 (w : World) (a b : Obj) : w.heap.size + 1 + 1 = ((w.alloc a).alloc b).heap.size := by simp

theorem IsMem.ne_g {w : World} {b g cap : Nat} {ev : Value} {cs : List (Int × Int)} {s : Fin 8 → Int} {es : List Value} {m : Nat} (M : IsMem w b g cap ev cs s es m) : b ≠ g := by
  obtain ⟨cur, hb, _⟩ := M.row
  exact M.blk.ne_ hb (by decide)
theorem IsMem.ev_at {w : World} {b g cap : Nat} {ev : Value} {cs : List (Int × Int)} {s : Fin 8 → Int} {es : List Value} {m : Nat} (M : IsMem w b g cap ev cs s es m) {x : Nat} (hx : ev.ownBlock = some x) : x < w.heap.size ∧ x ≠ b ∧ x ≠ g := by
  rcases M.evs.2 with ⟨rfl, _⟩ | ⟨g', c', cur', rfl, _, hh, _⟩
  · simp [Value.ownBlock] at hx
  · simp [Value.ownBlock] at hx
    subst hx
    obtain ⟨cur, hb, _⟩ := M.row
    have hh' : Blk w g' 57 cur' := hh
    exact ⟨hh'.lt, hh'.ne_ M.blk (by decide), hh'.ne_ hb (by decide)⟩
theorem IsMem.g_lt {w : World} {b g cap : Nat} {ev : Value} {cs : List (Int × Int)} {s : Fin 8 → Int} {es : List Value} {m : Nat} (M : IsMem w b g cap ev cs s es m) : g < w.heap.size := by
  obtain ⟨cur, hb, _⟩ := M.row
  exact hb.lt

/-- What a turn leaves of the memory, and of the blocks that the call itself has made. -/
theorem close_turn {w W1 w1 wx : World} {b g cap : Nat} {ev : Value} {cs cs' : List (Int × Int)} {s : Fin 8 → Int} {es : List Value} {m G : Nat} {A B : Array Value}
    (M : IsMem w b g cap ev cs s es m) (h1 : Kept (fun _ => False) w W1) (hA : Blk W1 w.heap.size 37 A) (hB : Blk W1 (w.heap.size + 1) 41 B) (hl : cs'.length = cs.length)
    (hK : Kept (fun k => k = g) W1 w1) (hR : RowC w1 g cap cs') (hx : Kept (fun k => k = G) w1 wx) (hG : w.heap.size + 2 ≤ G) :
    IsMem wx b g cap ev cs' s es m ∧ Kept (fun x => x = b ∨ x = g ∨ ev.ownBlock = some x) w wx ∧ Blk wx w.heap.size 37 A ∧ Blk wx (w.heap.size + 1) 41 B := by
  have hb := M.blk.lt
  have hg := M.g_lt
  have hbg := M.ne_g
  refine ⟨⟨?_, ?_, ?_⟩, ?_, ?_, ?_⟩
  · rw [hl]
    exact hx.blk (hK.blk (h1.blk M.blk (by simp)) hbg) (by omega)
  · obtain ⟨cur, hbl, r⟩ := hR
    exact ⟨cur, hx.blk hbl (by omega), r⟩
  · refine hx.own (hK.own (h1.own M.evs (by simp)) ?_) ?_
    · intro k hk
      exact (M.ev_at hk).2.2
    · intro k hk
      have := (M.ev_at hk).1
      omega
  · refine ⟨hx.os.trans (hK.os.trans h1.os), hx.tape.trans (hK.tape.trans h1.tape), hx.output.trans (hK.output.trans h1.output), Nat.le_trans h1.size (Nat.le_trans hK.size hx.size), fun k hk hn => ?_⟩
    have hk1 := Nat.lt_of_lt_of_le hk h1.size
    have hk2 := Nat.lt_of_lt_of_le hk1 hK.size
    exact (hx.block k hk2 (by omega)).trans ((hK.block k hk1 (fun e => hn (.inr (.inl e)))).trans (h1.block k hk (by simp)))
  · exact hx.blk (hK.blk hA (by omega)) (by omega)
  · exact hx.blk (hK.blk hB (by omega)) (by omega)

def DoS (b g n cap B : Nat) (k i : Int) (o nw : Int × Int) (w' : World) : Prop :=
  w'.cell? ⟨b, 0, none⟩ = some (.slice (some ⟨g, 0, none⟩) n cap) ∧ w'.cell? ⟨B, 0, none⟩ = some (.int .i64 k) ∧ w'.cell? ⟨B, 1, none⟩ = some (.int .i64 i) ∧
        w'.cell? ⟨B, 2, none⟩ = some (.int .u64 o.1) ∧ w'.cell? ⟨B, 3, none⟩ = some (.int .u64 o.2) ∧ w'.cell? ⟨B, 4, none⟩ = some (.int .u64 nw.1) ∧ w'.cell? ⟨B, 5, none⟩ = some (.int .u64 nw.2)
theorem DoS.keep {b g n cap B : Nat} {k i : Int} {o nw : Int × Int} {W w1 : World} (hK : Kept (fun k => k = g) W w1) (h1 : b ≠ g) (h2 : B ≠ g) (h : DoS b g n cap B k i o nw W) : DoS b g n cap B k i o nw w1 :=
  ⟨hK.cell_some h1 h.1, hK.cell_some h2 h.2.1, hK.cell_some h2 h.2.2.1, hK.cell_some h2 h.2.2.2.1, hK.cell_some h2 h.2.2.2.2.1, hK.cell_some h2 h.2.2.2.2.2.1, hK.cell_some h2 h.2.2.2.2.2.2⟩

theorem DoS.alloc {b g n cap B : Nat} {k i : Int} {o nw : Int × Int} {w : World} (h : DoS b g n cap B k i o nw w) (x : Obj) : DoS b g n cap B k i o nw (w.alloc x) :=
  have c : ∀ {p : Addr} {v : Value}, w.cell? p = some v → (w.alloc x).cell? p = some v := fun {p _} hc => (World.cell?_alloc_lt w x p (World.block_lt_of_cell? w p hc)).trans hc
  ⟨c h.1, c h.2.1, c h.2.2.1, c h.2.2.2.1, c h.2.2.2.2.1, c h.2.2.2.2.2.1, c h.2.2.2.2.2.2⟩
theorem DoS.setFar {b g n cap B : Nat} {k i : Int} {o nw : Int × Int} {w : World} (h : DoS b g n cap B k i o nw w) (G j : Nat) (u : Value) (h1 : b ≠ G) (h2 : B ≠ G) : DoS b g n cap B k i o nw (w.setCell ⟨G, j, none⟩ u) :=
  have c : ∀ {p : Addr} {v : Value}, p.block ≠ G → w.cell? p = some v → (w.setCell ⟨G, j, none⟩ u).cell? p = some v := fun {p _} hp hc => (World.cell?_setCell_other w ⟨G, j, none⟩ p u (fun e => hp (by rw [← e]))).trans hc
  ⟨c h1 h.1, c h2 h.2.1, c h2 h.2.2.1, c h2 h.2.2.2.1, c h2 h.2.2.2.2.1, c h2 h.2.2.2.2.2.1, c h2 h.2.2.2.2.2.2⟩

theorem nine_of {W : World} {B G : Nat} {x0 x1 x2 x3 x4 x5 y0 y1 y2 : Value} (h : Blk W B 37 #[x0, x1, x2, x3, x4, x5]) (h' : Blk W G 41 #[y0, y1, y2]) :
    W.cell? ⟨B, 0, none⟩ = some x0 ∧ W.cell? ⟨B, 1, none⟩ = some x1 ∧ W.cell? ⟨B, 2, none⟩ = some x2 ∧ W.cell? ⟨B, 3, none⟩ = some x3 ∧ W.cell? ⟨B, 4, none⟩ = some x4 ∧ W.cell? ⟨B, 5, none⟩ = some x5 ∧
      W.cell? ⟨G, 0, none⟩ = some y0 ∧ W.cell? ⟨G, 1, none⟩ = some y1 ∧ W.cell? ⟨G, 2, none⟩ = some y2 := ⟨h.cell 0, h.cell 1, h.cell 2, h.cell 3, h.cell 4, h.cell 5, h'.cell 0, h'.cell 1, h'.cell 2⟩
theorem own_blk_ne {w : World} {base : Nat} {e : TypeId} {size n g : Nat} {v : Value} {xs : List Value} {t : TypeId} {cs : Array Value} (h : w.ownsRow base e size v n xs) (hg : Blk w g t cs) (hne : e ≠ t) : some g ≠ v.ownBlock := by
  rcases h.2 with ⟨rfl, _⟩ | ⟨g', cap, cur, rfl, _, hh, _⟩
  · simp [Value.ownBlock]
  · intro he
    have : g' = g := by simpa [Value.ownBlock] using he.symm
    subst this
    exact Blk.ne_ (t := e) hh hg hne rfl
def bump (s : Fin 8 → Int) (who : Fin 8) : Fin 8 → Int := fun j => if j = who then s j + 1 else s j
theorem memArr_bump (cv ev : Value) (s : Fin 8 → Int) (who : Fin 8) : (memArr cv ev s).setIfInBounds (1 + who.val) (.int .i64 (s who + 1)) = memArr cv ev (bump s who) := by
  match who with | 0 => rfl | 1 => rfl | 2 => rfl | 3 => rfl | 4 => rfl | 5 => rfl | 6 => rfl | 7 => rfl
theorem Try.infoEv : (Try.prog.info? 57).map (fun i => (i.zero, i.size, i.bytes)) = some (some (.agg #[.int .i64 0, .int .i64 0, .int .i64 0, .int .u64 0, .int .u64 0, .int .u64 0, .int .u64 0, .int .u64 0, .int .u64 0, .bool false]), 10, 80) := by kernel_rfl

/-- What the append of a step leaves of the memory. -/
theorem close_event {w wc W w3 : World} {b g cap : Nat} {ev : Value} {cs : List (Int × Int)} {s : Fin 8 → Int} {es news : List Value} {m G gg cap3 H : Nat} {A B : Array Value}
    (M : IsMem wc b g cap ev cs s es m) (K : Kept (fun x => x = b ∨ x = g ∨ ev.ownBlock = some x) w wc) (h1 : Kept (fun _ => False) wc W) (hG : Blk wc G 41 A) (hB : Blk wc H 41 B)
    (hown : w3.ownsRow 0 57 10 (.slice (some ⟨gg, 0, none⟩) (m + 1) cap3) (m + 1) (es ++ news)) (hgrow : W.grownBy w3 ev.ownBlock) (hat : ev.ownBlock = some gg ∨ gg = wc.heap.size + 1) :
    ∃ ev', IsMem (w3.setCell ⟨b, 9, none⟩ (.slice (some ⟨gg, 0, none⟩) (m + 1) cap3)) b g cap ev' cs s (es ++ news) (m + 1) ∧
      Kept (fun x => x = b ∨ x = g ∨ ev.ownBlock = some x) w (w3.setCell ⟨b, 9, none⟩ (.slice (some ⟨gg, 0, none⟩) (m + 1) cap3)) ∧ (ev'.ownBlock = ev.ownBlock ∨ ∃ x, ev'.ownBlock = some x ∧ w.heap.size ≤ x) ∧
      Blk (w3.setCell ⟨b, 9, none⟩ (.slice (some ⟨gg, 0, none⟩) (m + 1) cap3)) G 41 A ∧ Blk (w3.setCell ⟨b, 9, none⟩ (.slice (some ⟨gg, 0, none⟩) (m + 1) cap3)) H 41 B := by
  have hM := IsMem.keep M h1 (by simp) (by simp) (by simp)
  have hG1 := h1.blk hG (by simp)
  have hB1 := h1.blk hB (by simp)
  have kb := hM.blk.grown hgrow (own_blk_ne hM.evs hM.blk (by decide))
  have kG := hG1.grown hgrow (own_blk_ne hM.evs hG1 (by decide))
  have kB := hB1.grown hgrow (own_blk_ne hM.evs hB1 (by decide))
  have hx := own_blk_ne hown kb (by decide)
  refine ⟨.slice (some ⟨gg, 0, none⟩) (m + 1) cap3, ⟨kb.set_ 9 _, ?_, ?_⟩, ?_, ?_, ?_, ?_⟩
  · obtain ⟨cur, hb, r⟩ := hM.row
    exact ⟨cur, (hb.grown hgrow (own_blk_ne hM.evs hb (by decide))).far (p := ⟨b, 9, none⟩) (Ne.symm M.ne_g) _, r⟩
  · refine (Kept.setAt (g := b) (Kept.refl _ w3) _).own hown ?_
    intro x hx' e
    exact hx (by rw [hx', e])
  · refine Kept.setCell ?_ (p := ⟨b, 9, none⟩) (.inl (.inl rfl)) _
    exact (K.trans (h1.mono (by simp))).trans ((Kept.grown hgrow).mono (fun k _ h => .inr (.inr h.symm)))
  · rcases hat with h | h
    · exact .inl h.symm
    · exact .inr ⟨gg, rfl, by have := K.size; omega⟩
  · exact kG.far (p := ⟨b, 9, none⟩) (hG.ne_ M.blk (by decide)) _
  · exact kB.far (p := ⟨b, 9, none⟩) (hB.ne_ M.blk (by decide)) _

/-- What the store of the result leaves of the memory. -/
theorem close_result {w wc : World} {b g cap : Nat} {ev' : Value} {S : Nat → Prop} {cs : List (Int × Int)} {s : Fin 8 → Int} {es : List Value} {m H : Nat} {B : Array Value} (u v x : Value)
    (M : IsMem wc b g cap ev' cs s es m) (K : Kept S w wc) (hB : Blk wc H 41 B) (hH : w.heap.size ≤ H) :
    IsMem (((wc.setCell ⟨H, 0, none⟩ u).setCell ⟨H, 1, none⟩ v).setCell ⟨H, 2, none⟩ x) b g cap ev' cs s es m ∧ Kept S w (((wc.setCell ⟨H, 0, none⟩ u).setCell ⟨H, 1, none⟩ v).setCell ⟨H, 2, none⟩ x) := by
  have hb := hB.ne_ M.blk (by decide)
  have hg : H ≠ g := by
    obtain ⟨cur, h, _⟩ := M.row
    exact hB.ne_ h (by decide)
  have he := own_blk_ne M.evs hB (by decide)
  refine ⟨M.keep ((((Kept.refl (fun k => k = H) wc).setAt u).setAt v).setAt x) (fun e => hb e.symm) (fun e => hg e.symm) (fun y hy e => he (by rw [hy, e])), ?_⟩
  exact ((K.setCell (p := ⟨H, 0, none⟩) (.inr hH) u).setCell (p := ⟨H, 1, none⟩) (.inr hH) v).setCell (p := ⟨H, 2, none⟩) (.inr hH) x

set_option maxHeartbeats 3000000 in
theorem do_ok (w : World) (b g cap : Nat) (ev : Value) (cs : List (Int × Int)) (s : Fin 8 → Int) (es : List Value) (m : Nat) (M : IsMem w b g cap ev cs s es m)
    (who : Fin 8) (k : Int) (i : Nat) (o n p : Int × Int) (h0 : 0 ≤ k) (h3 : k ≤ 3) (hi : cs[i]? = some p) (hm : m ≤ 1000) (hs : ∀ j, 0 ≤ s j ∧ s j ≤ 1000) :
    Calls Try.prog 12 #[.pointer (some ⟨b, 0, none⟩), .int .i64 ((who.val : Nat) : Int), opV k i o n] w fun e w' => e = .returned (.tuple #[outV p (becomes p k o n).2, .int .i64 0]) ∧
      ∃ ev', IsMem w' b g cap ev' (cs.set i (becomes p k o n).1) (bump s who) (es ++ eventL who.val k i o n p (becomes p k o n).2) (m + 1) ∧
        Kept (fun x => x = b ∨ x = g ∨ ev.ownBlock = some x) w w' ∧ (ev'.ownBlock = ev.ownBlock ∨ ∃ x, ev'.ownBlock = some x ∧ w.heap.size ≤ x) := by
  have hbs := M.blk.lt
  have hb1 : b < w.heap.size + 1 := by omega
  have hb2 : b < w.heap.size + 1 + 1 := by omega
  have hc0 := M.blk.m0
  have hlt : i < cs.length := (List.getElem?_eq_some_iff.1 hi).1
  obtain ⟨q, hq⟩ : ∃ q, q = becomes p k o n := ⟨_, rfl⟩
  rw [← hq]
  have hw1 := who.isLt
  unfold opV
  have MM := Lib.hid M
  have HQ := Lib.hid hq
  have HI := Lib.hid hi
  clear M hq hi
  have hk0 : (decide (k < 0) || decide (3 < k)) = false := by simp; omega
  go_enter Try.func12, Try.ntmps12
  go_upto_region 7 with (first
    | (go_at_call 22; refine (isThread_yes _ _ (by omega) (by omega)).mono ?_; rintro e w' ⟨rfl, rfl⟩)
    | (go_at_call 23; refine (has_yes _ _ _ (some ⟨g, 0, none⟩) cs.length cap (by rw [World.cell?_alloc_past _ _ _ (by simp; omega), World.cell?_alloc_past _ _ _ hbs]; exact hc0) (by omega) (by omega)).mono ?_; rintro e w' ⟨rfl, rfl⟩))
  go_cut [8] (fun s8 wx => ∃ G : Nat, s8 = .pointer (some ⟨G, 0, none⟩) ∧ Blk wx G 41 #[.int .u64 p.1, .int .u64 p.2, .bool q.2] ∧ IsMem wx b g cap ev (cs.set i q.1) s es m ∧ Kept (fun x => x = b ∨ x = g ∨ ev.ownBlock = some x) w wx ∧
     Blk wx w.heap.size 37 #[.int .i64 k, .int .i64 i, .int .u64 o.1, .int .u64 o.2, .int .u64 n.1, .int .u64 n.2] ∧ Blk wx (w.heap.size + 1) 41 #[.int .u64 0, .int .u64 0, .bool false])
  case first =>
    have HR := Lib.hid MM.out.row
    have hgs : g < w.heap.size := by obtain ⟨cur, hb, _⟩ := MM.out.row; exact hb.lt
    have hbg := MM.out.ne_g
    have hBg : w.heap.size ≠ g := by omega
    have hbG : b ≠ w.heap.size + 1 + 1 := by omega
    have hgG : w.heap.size + 1 + 1 ≠ g := by omega
    have hBG : w.heap.size ≠ w.heap.size + 1 + 1 := by omega
    go_region_held3 (fun w' => w'.cell? ⟨b, 0, none⟩ = some (.slice (some ⟨g, 0, none⟩) cs.length cap) ∧ w'.cell? ⟨w.heap.size, 0, none⟩ = some (.int .i64 k) ∧ w'.cell? ⟨w.heap.size, 1, none⟩ = some (.int .i64 i) ∧
        w'.cell? ⟨w.heap.size, 2, none⟩ = some (.int .u64 o.1) ∧ w'.cell? ⟨w.heap.size, 3, none⟩ = some (.int .u64 o.2) ∧ w'.cell? ⟨w.heap.size, 4, none⟩ = some (.int .u64 n.1) ∧ w'.cell? ⟨w.heap.size, 5, none⟩ = some (.int .u64 n.2))
      (first | assumption | exact hSS | exact DoS.alloc hSS _ | (show DoS b g cs.length cap w.heap.size k i o n _; exact DoS.setFar (DoS.setFar (DoS.setFar hSS _ _ _ hbG hBG) _ _ _ hbG hBG) _ _ _ hbG hBG) | (go_keep; done) | (simp [*, go_sem]; done))
      ((go_at_call 24; refine (turn_calls _ g cap i cs k i o n p ?_ HI.out h0 h3).mono ?_; (obtain ⟨cur, hb, r⟩ := HR.out; exact ⟨cur, (by repeat' (first | exact hb | apply Blk.alloc | apply Blk.drew)), r⟩); rintro e w1 ⟨rfl, hR, hK⟩; rw [← HQ.out] at hR ⊢; simp only [outV]; have hSS : DoS b g cs.length cap w.heap.size k i o n w1 := DoS.keep hK hbg hBg (by unfold DoS; first | assumption | go_keep); try (have hZ := hK.blk (Blk.drew (Blk.new' ((w.alloc _).alloc _) 41 #[.int .u64 0, .int .u64 0, .bool false] _ (hsz2 w _ _))) hgG; have z0 : w1.cell? ⟨w.heap.size + 1 + 1, 0, none⟩ = some (.int .u64 0) := hZ.cell 0; have z1 : w1.cell? ⟨w.heap.size + 1 + 1, 1, none⟩ = some (.int .u64 0) := hZ.cell 1; have z2 : w1.cell? ⟨w.heap.size + 1 + 1, 2, none⟩ = some (.bool false) := hZ.cell 2; have y0 := hZ.frozen 0; have y1 := hZ.frozen 1; have y2 := hZ.frozen 2; have HZ := Lib.hid hZ; clear hZ)))
    · have hsz := hK.size
      simp at hsz
      go_wp2_with fail
      go_meet
      exact ⟨_, rfl, Blk.new' _ _ _ _ rfl, close_turn (G := w1.heap.size) MM.out (by repeat' (first | exact Kept.refl _ _ | apply Kept.alloc | apply Kept.drew)) (by repeat' (first | exact Blk.new' _ _ _ _ (by simp) | apply Blk.alloc | apply Blk.drew))
        (by repeat' (first | exact Blk.new' _ _ _ _ (by simp) | apply Blk.alloc | apply Blk.drew)) (by simp) hK hR (by repeat' (first | exact Kept.refl _ _ | apply Kept.alloc)) (by omega)⟩
    · go_wp2_with fail
      go_meet
      exact ⟨_, rfl, (((HZ.out.set_ 0 _).set_ 1 _).set_ 2 _), close_turn (G := w.heap.size + 1 + 1) MM.out (by repeat' (first | exact Kept.refl _ _ | apply Kept.alloc | apply Kept.drew)) (by repeat' (first | exact Blk.new' _ _ _ _ (by simp) | apply Blk.alloc | apply Blk.drew))
        (Blk.drew (Blk.alloc (Blk.new' _ _ _ _ (by simp)) _)) (by simp) hK hR (by repeat' (first | exact Kept.refl _ _ | apply Kept.setAt)) (by omega)⟩
  case rest =>
    obtain ⟨G, rfl, hG, M', K', B1, B2⟩ := hcut
    have hbs' := M'.blk.lt
    have hcw : wc.cell? ⟨b, 1 + who.val, none⟩ = some (.int .i64 (s who)) := by
      rw [M'.blk.cell]
      match who with | 0 => rfl | 1 => rfl | 2 => rfl | 3 => rfl | 4 => rfl | 5 => rfl | 6 => rfl | 7 => rfl
    have hfw := M'.blk.frozen (1 + who.val)
    have hsw := hs who
    have HM := Lib.hid M'
    have HK := Lib.hid K'
    have HG := Lib.hid hG
    have HB1 := Lib.hid B1
    have HB2 := Lib.hid B2
    clear M' K' hG B1 B2
    go_upto_region 8 with fail
    go_cut [] (fun wx => IsMem wx b g cap ev (cs.set i q.1) (bump s who) es m ∧ Kept (fun x => x = b ∨ x = g ∨ ev.ownBlock = some x) w wx ∧ Blk wx G 41 #[.int .u64 p.1, .int .u64 p.2, .bool q.2] ∧
      Blk wx w.heap.size 37 #[.int .i64 k, .int .i64 i, .int .u64 o.1, .int .u64 o.2, .int .u64 n.1, .int .u64 n.2] ∧ Blk wx (w.heap.size + 1) 41 #[.int .u64 0, .int .u64 0, .bool false])
    case first =>
      go_region
      go_wp2_with fail
      go_meet
      have hM := HM.out
      have hne := hM.ne_g
      refine ⟨⟨?_, ?_, ?_⟩, ?_, ?_, ?_, ?_⟩
      · rw [← memArr_bump]
        exact (hM.blk.set_ _ _).drew
      · obtain ⟨cur, hb, r⟩ := hM.row
        exact ⟨cur, (hb.far (p := ⟨b, _, none⟩) (Ne.symm hne) _).drew, r⟩
      · exact (Kept.setAt (g := b) (Kept.refl _ _) _).drew.own hM.evs (fun x hx => (hM.ev_at hx).2.1)
      · exact (HK.out.setCell (p := ⟨b, _, none⟩) (.inl (.inl rfl)) _).drew
      · exact (HG.out.far (p := ⟨b, _, none⟩) (HG.out.ne_ hM.blk (by decide)) _).drew
      · exact (HB1.out.far (p := ⟨b, _, none⟩) (HB1.out.ne_ hM.blk (by decide)) _).drew
      · exact (HB2.out.far (p := ⟨b, _, none⟩) (HB2.out.ne_ hM.blk (by decide)) _).drew
    case rest =>
      obtain ⟨M2, K2, hG, B1, B2⟩ := hcut
      obtain ⟨i0, hi0, hz0, hz1, hz2⟩ := info_parts Try.infoEv
      have hbs2 := M2.blk.lt
      have h9 := M2.blk.m9
      have f9 := M2.blk.frozen 9
      have hGb := hG.ne_ M2.blk (by decide)
      have hBb := B1.ne_ M2.blk (by decide)
      have hEG := own_blk_ne M2.evs hG (by decide)
      have hEB := own_blk_ne M2.evs B1 (by decide)
      have hEb := own_blk_ne M2.evs M2.blk (by decide)
      have hEB2 := own_blk_ne M2.evs B2 (by decide)
      have HM2 := Lib.hid M2
      have HK2 := Lib.hid K2
      have HG2 := Lib.hid hG
      have HB12 := Lib.hid B1
      have HB22 := Lib.hid B2
      clear M2 K2 hG B1 B2
      go_upto_region 9 with fail
      go_cut [] (fun wx => ∃ ev', IsMem wx b g cap ev' (cs.set i q.1) (bump s who) (es ++ eventL who.val k i o n p q.2) (m + 1) ∧ Kept (fun x => x = b ∨ x = g ∨ ev.ownBlock = some x) w wx ∧ (ev'.ownBlock = ev.ownBlock ∨ ∃ x, ev'.ownBlock = some x ∧ w.heap.size ≤ x) ∧
        Blk wx G 41 #[.int .u64 p.1, .int .u64 p.2, .bool q.2] ∧ Blk wx (w.heap.size + 1) 41 #[.int .u64 0, .int .u64 0, .bool false])
      case first =>
        have hBs := HB12.out.lt
        have hGs := HG2.out.lt
        obtain ⟨c0, c1, c2, c3, c4, c5, d0, d1, d2⟩ := nine_of HB12.out HG2.out
        go_region_law
          (refine step_append_lies _ (by rfl) _ _ _ (by rfl) 0 57 i0 _ 10 80 Try.underlying29 hi0 hz0 hz1 hz2 rfl (by omega) ev m es (by rfl) ((HM2.out.evs.alloc _).drew)
                ⟨wc.heap.size, 0, none⟩ 1 1 (eventL who.val k i o n p q.2) (by rfl) (by rfl) (World.news_of_block (cs := #[.int .i64 who.val, .int .i64 k, .int .i64 i, .int .u64 o.1, .int .u64 o.2, .int .u64 n.1, .int .u64 n.2, .int .u64 p.1, .int .u64 p.2, .bool q.2]) (t := 57) (fr := (0, 0)) (heap_alloc_new wc _)) (by simp [eventL, Value.oneCell'])
                (by omega) (by unfold maxLen; omega) (by omega) (Nat.zero_le _) (wc.heap.size + 1) (by simp) ?_; intro gg cap3 w3 hown3 hgrow hat hlt; have h9' := ((HM2.out.blk.alloc _).drew.grown hgrow hEb).m9; have f9' := ((HM2.out.blk.alloc _).drew.grown hgrow hEb).frozen 9)
        all_goals (
          go_wp2_with fail
          go_meet
          exact close_event HM2.out HK2.out (((Kept.refl _ _).alloc _).drew) HG2.out HB22.out hown3 hgrow hat)
      case rest =>
        obtain ⟨ev', M3, K3, hev, hG, B2⟩ := hcut
        have e0 : wc.cell? ⟨G, 0, none⟩ = some (.int .u64 p.1) := hG.cell 0
        have e1 : wc.cell? ⟨G, 1, none⟩ = some (.int .u64 p.2) := hG.cell 1
        have e2 : wc.cell? ⟨G, 2, none⟩ = some (.bool q.2) := hG.cell 2
        have r0 : wc.cell? ⟨w.heap.size + 1, 0, none⟩ = some (.int .u64 0) := B2.cell 0
        have r1 : wc.cell? ⟨w.heap.size + 1, 1, none⟩ = some (.int .u64 0) := B2.cell 1
        have r2 : wc.cell? ⟨w.heap.size + 1, 2, none⟩ = some (.bool false) := B2.cell 2
        have f0 := B2.frozen 0
        have f1 := B2.frozen 1
        have f2 := B2.frozen 2
        have HM3 := Lib.hid M3
        have HK3 := Lib.hid K3
        have HV := Lib.hid hev
        have HB3 := Lib.hid B2
        clear M3 K3 hG B2 hev
        go_wp2
        obtain ⟨hm3, hk3⟩ := close_result (.int .u64 p.1) (.int .u64 p.2) (.bool q.2) HM3.out HK3.out HB3.out (by omega)
        have hf := (((HB3.out).set_ 0 (.int .u64 p.1)).set_ 1 (.int .u64 p.2)).set_ 2 (.bool q.2)
        generalize ((wc.setCell ⟨w.heap.size + 1, 0, none⟩ (.int .u64 p.1)).setCell ⟨w.heap.size + 1, 1, none⟩ (.int .u64 p.2)).setCell ⟨w.heap.size + 1, 2, none⟩ (.bool q.2) = wx at *
        have k0 : wx.cell? ⟨w.heap.size + 1, 0, none⟩ = some (.int .u64 p.1) := hf.cell 0
        have k1 : wx.cell? ⟨w.heap.size + 1, 1, none⟩ = some (.int .u64 p.2) := hf.cell 1
        have k2 : wx.cell? ⟨w.heap.size + 1, 2, none⟩ = some (.bool q.2) := hf.cell 2
        exact bodyPost_ret (v := .tuple #[outV p q.2, .int .i64 0]) (by simp [results, Try.results12, go_sem, outV, k0, k1, k2]) rfl ⟨rfl, ev', hm3, hk3, HV.out⟩

end Go.Proofs.Ytkinnhdagdkhcaa
