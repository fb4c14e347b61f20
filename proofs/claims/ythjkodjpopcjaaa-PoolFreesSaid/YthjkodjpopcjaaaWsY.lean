/- Layer 8: a set of the law's own, with rows beside it that stay. -/
import Derived.Test.YthjkodjpopcjaaaWsSa
import Derived.Test.YthjkodjpopcjaaaVwG
namespace Go.Proofs.Ythjkodjpopcjaaa
open Go.RowKit Go.Maps

/-- A set made since w0; the blocks of G are none of its own; R holds, and hangs on blocks of G alone. -/
structure SX (G : Nat → Prop) (R : World → Prop) (w0 w : World) (b : Nat) (room : Int) (ps : List (Int × Int)) (n : Nat) : Prop where
  set : ISet w b room ps n (fun x => w0.heap.size ≤ x ∧ ¬ G x)
  kept : Kept (fun _ => False) w0 w
  low : ∀ x, G x → x < w.heap.size
  holds : R w
  stays : ∀ a c, R a → Kept (fun x => ¬ G x) a c → R c
section
variable {G : Nat → Prop} {R : World → Prop} {w0 w w' : World} {b : Nat} {room : Int} {ps : List (Int × Int)} {n : Nat}
theorem SX.of (h : SG w0 w b room ps n) : SX (fun _ => False) (fun _ => True) w0 w b room ps n := ⟨h.1.mono (fun _ _ hx => ⟨hx, fun h => h⟩), h.2, fun _ h => h.elim, trivial, fun _ _ _ _ => trivial⟩
theorem SX.keep (h : SX G R w0 w b room ps n) (k : Kept (fun _ => False) w w') : SX G R w0 w' b room ps n :=
  ⟨h.set.keep k, h.kept.trans k, fun x hx => Nat.lt_of_lt_of_le (h.low x hx) k.size, h.stays _ _ h.holds (k.mono (fun _ _ h => h.elim)), h.stays⟩
theorem SX.moved (h : SX G R w0 w b room ps n) {ps' : List (Int × Int)} {n' : Nat} (hs : ISet w' b room ps' n' (fun x => w0.heap.size ≤ x ∧ ¬ G x)) (k : Kept (fun x => w0.heap.size ≤ x ∧ ¬ G x) w w') : SX G R w0 w' b room ps' n' :=
  ⟨hs, keptOwn h.kept (k.mono (fun _ _ hx => hx.1)), fun x hx => Nat.lt_of_lt_of_le (h.low x hx) k.size, h.stays _ _ h.holds (k.mono (fun _ _ hx => hx.2)), h.stays⟩
theorem SX.put (h : SX G R w0 w b room ps n) (a v : Int) (ha : I64 a) (hp : ps.length ≤ 60000) (hn : n ≤ 60000) :
    Calls Try.prog 77 #[.pointer (some ⟨b, 0, none⟩), .int .i64 a, .int .u64 v] w fun e w' => e = .returned (.int .i64 (putErr room ps a)) ∧ SX G R w0 w' b room (putS room ps (a, v)) (n + 1) :=
  (put_calls h.set a v ha hp hn).mono fun _ _ ⟨h1, h2, h3⟩ => ⟨h1, h.moved (h2.mono (fun x _ hx => hx.elim id (fun hx => ⟨Nat.le_trans h.kept.size hx, fun g => by have := h.low x g; omega⟩))) h3⟩
theorem SX.back (h : SX G R w0 w b room ps n) (hw : Wf ps) (hp : ps.length ≤ 60000) (mark : Int) :
    Calls Try.prog 37 #[.pointer (some ⟨b, 0, none⟩), .int .i64 mark] w fun e w' => e = .returned (.bool (decide (0 ≤ mark ∧ mark ≤ ps.length))) ∧ SX G R w0 w' b room (if 0 ≤ mark ∧ mark ≤ ps.length then ps.take mark.toNat else ps) n :=
  (back_calls h.set hw hp mark).mono fun _ _ ⟨h1, h2, h3⟩ => ⟨h1, h.moved h2 h3⟩
/-- The row v holds the entries es. -/
def RowE (v : Value) (es : List (Int × Int)) (w : World) : Prop := w.ownsRow 0 148 2 v es.length (entL es)
theorem SX.weak {G' : Nat → Prop} {R' : World → Prop} (h : SX G R w0 w b room ps n) (hg : ∀ x, G' x → G x) (hr : R' w) (hs : ∀ a c, R' a → Kept (fun x => ¬ G' x) a c → R' c) : SX G' R' w0 w b room ps n :=
  ⟨h.set.mono (fun _ _ hx => ⟨hx.1, fun g => hx.2 (hg _ g)⟩), h.kept, fun x hx => h.low x (hg x hx), hr, hs⟩
/-- A row of this moment, let go again. -/
theorem SX.drop {v : Value} {es : List (Int × Int)} (h0 : SX G R w0 w b room ps n) (h : SX (fun x => G x ∨ v.ownBlock = some x) (fun W => R W ∧ RowE v es W) w0 w' b room ps n) : SX G R w0 w' b room ps n :=
  h.weak (fun _ g => .inl g) h.holds.1 h0.stays
end
end Go.Proofs.Ythjkodjpopcjaaa
