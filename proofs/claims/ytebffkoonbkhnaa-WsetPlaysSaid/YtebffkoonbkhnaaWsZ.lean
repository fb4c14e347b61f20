/- Layer 8: two sets of the law's own, apart, with rows beside them that stay. -/
import Derived.Test.YtebffkoonbkhnaaWsY
namespace Go.Proofs.Ytebffkoonbkhnaa
open Go.RowKit Go.Maps

/-- Two sets made since w0, apart from each other; the blocks of G are none of theirs; R holds, and hangs on blocks of G alone. -/
structure SZ (G : Nat → Prop) (R : World → Prop) (w0 w : World) (x y : Nat) (room : Int) (ps qs : List (Int × Int)) (n m : Nat) : Prop where
  sets : ∃ Fx Fy : Nat → Prop, ISet w x room ps n Fx ∧ ISet w y room qs m Fy ∧ (∀ z, Fx z → ¬ Fy z) ∧ (∀ z, Fx z → w0.heap.size ≤ z ∧ ¬ G z ∧ z < w.heap.size) ∧ (∀ z, Fy z → w0.heap.size ≤ z ∧ ¬ G z ∧ z < w.heap.size)
  kept : Kept (fun _ => False) w0 w
  low : ∀ z, G z → z < w.heap.size
  holds : R w
  stays : ∀ a c, R a → Kept (fun z => ¬ G z) a c → R c
section
variable {G : Nat → Prop} {R : World → Prop} {w0 w w' : World} {x y : Nat} {room : Int} {ps qs : List (Int × Int)} {n m : Nat}
theorem SZ.swap (h : SZ G R w0 w x y room ps qs n m) : SZ G R w0 w y x room qs ps m n := by
  obtain ⟨⟨Fx, Fy, h1, h2, h3, h4, h5⟩, k, l, r, s⟩ := h
  exact ⟨⟨Fy, Fx, h2, h1, fun z a b => h3 z b a, h5, h4⟩, k, l, r, s⟩
theorem SZ.keep (h : SZ G R w0 w x y room ps qs n m) (k : Kept (fun _ => False) w w') : SZ G R w0 w' x y room ps qs n m := by
  obtain ⟨⟨Fx, Fy, h1, h2, h3, h4, h5⟩, hk, l, r, s⟩ := h
  exact ⟨⟨Fx, Fy, h1.keep k, h2.keep k, h3, fun z hz => ⟨(h4 z hz).1, (h4 z hz).2.1, Nat.lt_of_lt_of_le (h4 z hz).2.2 k.size⟩, fun z hz => ⟨(h5 z hz).1, (h5 z hz).2.1, Nat.lt_of_lt_of_le (h5 z hz).2.2 k.size⟩⟩, hk.trans k, fun z hz => Nat.lt_of_lt_of_le (l z hz) k.size, s _ _ r (k.mono (fun _ _ h => h.elim)), s⟩
theorem SZ.of {G0 : Nat → Prop} (hx : ISet w x room ps n (fun z => w0.heap.size ≤ z)) (k0 : Kept (fun _ => False) w0 w) (hy : ISet w' y room qs m (fun z => w.heap.size ≤ z)) (k : Kept (fun _ => False) w w') (hG : ∀ z, ¬ G0 z) : SZ G0 (fun _ => True) w0 w' x y room ps qs n m :=
  ⟨⟨fun z => w0.heap.size ≤ z ∧ z < w.heap.size, fun z => w.heap.size ≤ z ∧ z < w'.heap.size, (hx.mono (fun z hz hf => ⟨hf, hz⟩)).keep k, hy.mono (fun z hz hf => ⟨hf, hz⟩), fun z a b => by omega, fun z hz => ⟨hz.1, hG z, Nat.lt_of_lt_of_le hz.2 k.size⟩, fun z hz => ⟨Nat.le_trans k0.size hz.1, hG z, hz.2⟩⟩,
   k0.trans k, fun z hz => (hG z hz).elim, trivial, fun _ _ _ _ => trivial⟩
theorem SZ.putx (h : SZ G R w0 w x y room ps qs n m) (a v : Int) (ha : I64 a) (hp : ps.length ≤ 60000) (hn : n ≤ 60000) :
    Calls Try.prog 60 #[.pointer (some ⟨x, 0, none⟩), .int .i64 a, .int .u64 v] w fun e w' => e = .returned (.int .i64 (putErr room ps a)) ∧ SZ G R w0 w' x y room (putS room ps (a, v)) qs (n + 1) m := by
  obtain ⟨⟨Fx, Fy, h1, h2, h3, h4, h5⟩, hk, l, r, s⟩ := h
  refine (put_calls h1 a v ha hp hn).mono fun e w' ⟨he, hs, k⟩ => ⟨he, ⟨⟨fun z => (Fx z ∨ w.heap.size ≤ z) ∧ z < w'.heap.size, Fy, hs.mono (fun z hz hf => ⟨hf, hz⟩), h2.kept k (fun z a b => h3 z b a), ?_, ?_, ?_⟩, ?_, ?_, ?_, s⟩⟩
  · rintro z ⟨hz | hz, _⟩ hy
    · exact h3 z hz hy
    · have := (h5 z hy).2.2; omega
  · rintro z ⟨hz | hz, hl⟩
    · exact ⟨(h4 z hz).1, (h4 z hz).2.1, hl⟩
    · exact ⟨Nat.le_trans hk.size hz, fun g => by have := l z g; omega, hl⟩
  · exact fun z hz => ⟨(h5 z hz).1, (h5 z hz).2.1, Nat.lt_of_lt_of_le (h5 z hz).2.2 k.size⟩
  · exact keptOwn hk (k.mono (fun z _ hz => (h4 z hz).1))
  · exact fun z hz => Nat.lt_of_lt_of_le (l z hz) k.size
  · exact s _ _ r (k.mono (fun z _ hz => (h4 z hz).2.1))
theorem SZ.backx (h : SZ G R w0 w x y room ps qs n m) (hw : Wf ps) (hp : ps.length ≤ 60000) (mark : Int) :
    Calls Try.prog 42 #[.pointer (some ⟨x, 0, none⟩), .int .i64 mark] w fun e w' => e = .returned (.bool (decide (0 ≤ mark ∧ mark ≤ ps.length))) ∧ SZ G R w0 w' x y room (if 0 ≤ mark ∧ mark ≤ ps.length then ps.take mark.toNat else ps) qs n m := by
  obtain ⟨⟨Fx, Fy, h1, h2, h3, h4, h5⟩, hk, l, r, s⟩ := h
  refine (back_calls h1 hw hp mark).mono fun e w' ⟨he, hs, k⟩ => ⟨he, ⟨⟨Fx, Fy, hs, h2.kept k (fun z a b => h3 z b a), h3, ?_, ?_⟩, ?_, ?_, ?_, s⟩⟩
  · exact fun z hz => ⟨(h4 z hz).1, (h4 z hz).2.1, Nat.lt_of_lt_of_le (h4 z hz).2.2 k.size⟩
  · exact fun z hz => ⟨(h5 z hz).1, (h5 z hz).2.1, Nat.lt_of_lt_of_le (h5 z hz).2.2 k.size⟩
  · exact keptOwn hk (k.mono (fun z _ hz => (h4 z hz).1))
  · exact fun z hz => Nat.lt_of_lt_of_le (l z hz) k.size
  · exact s _ _ r (k.mono (fun z _ hz => (h4 z hz).2.1))
theorem SZ.allx (h : SZ G R w0 w x y room ps qs n m) (hp : ps.length ≤ 60000) (most : Int) (hm : most ≤ 9223372036854775807) :
    Calls Try.prog 62 #[.pointer (some ⟨x, 0, none⟩), .int .i64 most] w fun e w' => ∃ v, e = .returned v ∧ RowE v ((ents ps).take most.toNat) w' ∧ SZ G R w0 w' x y room ps qs n m ∧ Kept (fun _ => False) w w' := by
  obtain ⟨⟨Fx, Fy, h1, _⟩, _⟩ := id h
  exact (lawAll h1 hp most hm).mono fun e w' ⟨v, he, hr, _, k⟩ => ⟨v, he, hr, h.keep k, k⟩
theorem SZ.markx (h : SZ G R w0 w x y room ps qs n m) : Calls Try.prog 36 #[.pointer (some ⟨x, 0, none⟩)] w fun e w' => e = .returned (.int .i64 (ps.length : Nat)) ∧ w = w' := by
  obtain ⟨⟨Fx, Fy, h1, _⟩, _⟩ := h
  exact mark_calls h1
theorem SZ.lenx (h : SZ G R w0 w x y room ps qs n m) : Calls Try.prog 56 #[.pointer (some ⟨x, 0, none⟩)] w fun e w' => e = .returned (.int .i64 ((ents ps).length : Nat)) ∧ w = w' := by
  obtain ⟨⟨Fx, Fy, h1, _⟩, _⟩ := h
  exact len_calls h1
/-- Rows made anew, or grown, beside the sets. -/
theorem SZ.regroup {S G' : Nat → Prop} {R' : World → Prop} (h : SZ G R w0 w x y room ps qs n m) (k : Kept S w w') (hS : ∀ z, z < w.heap.size → S z → G z) (hG : ∀ z, G' z → G z ∨ w.heap.size ≤ z) (hl : ∀ z, G' z → z < w'.heap.size)
    (hk : Kept (fun _ => False) w0 w') (hr : R' w') (hs : ∀ a c, R' a → Kept (fun z => ¬ G' z) a c → R' c) : SZ G' R' w0 w' x y room ps qs n m := by
  obtain ⟨⟨Fx, Fy, h1, h2, h3, h4, h5⟩, _, l, r, s⟩ := h
  refine ⟨⟨Fx, Fy, h1.kept k (fun z a b => (h4 z a).2.1 (hS z (h4 z a).2.2 b)), h2.kept k (fun z a b => (h5 z a).2.1 (hS z (h5 z a).2.2 b)), h3, fun z hz => ⟨(h4 z hz).1, ?_, Nat.lt_of_lt_of_le (h4 z hz).2.2 k.size⟩, fun z hz => ⟨(h5 z hz).1, ?_, Nat.lt_of_lt_of_le (h5 z hz).2.2 k.size⟩⟩, hk, hl, hr, hs⟩
  · intro g
    rcases hG z g with g | g
    · exact (h4 z hz).2.1 g
    · have := (h4 z hz).2.2; omega
  · intro g
    rcases hG z g with g | g
    · exact (h5 z hz).2.1 g
    · have := (h5 z hz).2.2; omega
end
end Go.Proofs.Ytebffkoonbkhnaa
