/- Layer 8 (wset): a set of the law's own. -/
import Derived.Test.YtebffkoonbkhnaaWsV
namespace Go.Proofs.Ytebffkoonbkhnaa
open Go.RowKit Go.Maps

/-- A set made since the world w0. -/
def SG (w0 w : World) (b : Nat) (room : Int) (ps : List (Int × Int)) (n : Nat) : Prop := ISet w b room ps n (fun x => w0.heap.size ≤ x) ∧ Kept (fun _ => False) w0 w
section
variable {w0 w w' : World} {b : Nat} {room : Int} {ps : List (Int × Int)} {n : Nat}
theorem keptOwn (k0 : Kept (fun _ => False) w0 w) (k : Kept (fun x => w0.heap.size ≤ x) w w') : Kept (fun _ => False) w0 w' :=
  k0.trans' (k.mono (T := fun x => w0.heap.size ≤ x) (fun _ _ h => h)) (fun x hx h => by omega)
theorem SG.keep (h : SG w0 w b room ps n) (k : Kept (fun _ => False) w w') : SG w0 w' b room ps n := ⟨h.1.keep k, h.2.trans k⟩
theorem SG.new (k : Kept (fun _ => False) w0 w) (x : Int) : Calls Try.prog 31 #[.int .i64 x] w fun e w' => ∃ b, e = .returned (.pointer (some ⟨b, 0, none⟩)) ∧ SG w0 w' b (roomOf x) [] 0 :=
  (new_calls x w).mono fun _ _ ⟨b, h1, h2, h3⟩ => ⟨b, h1, h2.mono (fun _ _ hx => Nat.le_trans k.size hx), k.trans h3⟩
theorem SG.put (h : SG w0 w b room ps n) (a v : Int) (ha : I64 a) (hp : ps.length ≤ 60000) (hn : n ≤ 60000) :
    Calls Try.prog 60 #[.pointer (some ⟨b, 0, none⟩), .int .i64 a, .int .u64 v] w fun e w' => e = .returned (.int .i64 (putErr room ps a)) ∧ SG w0 w' b room (putS room ps (a, v)) (n + 1) :=
  (put_calls h.1 a v ha hp hn).mono fun _ _ ⟨h1, h2, h3⟩ => ⟨h1, h2.mono (fun _ _ hx => hx.elim id (fun hx => Nat.le_trans h.2.size hx)), keptOwn h.2 h3⟩
theorem SG.back (h : SG w0 w b room ps n) (hw : Wf ps) (hp : ps.length ≤ 60000) (mark : Int) :
    Calls Try.prog 42 #[.pointer (some ⟨b, 0, none⟩), .int .i64 mark] w fun e w' => e = .returned (.bool (decide (0 ≤ mark ∧ mark ≤ ps.length))) ∧ SG w0 w' b room (if 0 ≤ mark ∧ mark ≤ ps.length then ps.take mark.toNat else ps) n :=
  (back_calls h.1 hw hp mark).mono fun _ _ ⟨h1, h2, h3⟩ => ⟨h1, h2, keptOwn h.2 h3⟩
theorem SG.all (h : SG w0 w b room ps n) (hp : ps.length ≤ 60000) (most : Int) (hm : most ≤ 9223372036854775807) :
    Calls Try.prog 62 #[.pointer (some ⟨b, 0, none⟩), .int .i64 most] w fun e w' => Made 129 w ((ents ps).take most.toNat) e w' ∧ SG w0 w' b room ps n :=
  (lawAll h.1 hp most hm).mono fun _ _ h1 => ⟨h1, h.keep h1.choose_spec.2.2.2⟩
end
section
variable {w0 w : World} {b : Nat}
theorem al_put1 (h : SG w0 w b 2 [] 0) : Calls Try.prog 60 #[.pointer (some ⟨b, 0, none⟩), .int .i64 7, .int .u64 1] w fun e w' => e = .returned (.int .i64 0) ∧ SG w0 w' b 2 [(7, 1)] 1 := h.put 7 1 (by unfold I64; omega) (by decide) (by decide)
theorem al_put2 (h : SG w0 w b 2 [(7, 1)] 1) : Calls Try.prog 60 #[.pointer (some ⟨b, 0, none⟩), .int .i64 9, .int .u64 2] w fun e w' => e = .returned (.int .i64 0) ∧ SG w0 w' b 2 [(7, 1), (9, 2)] 2 := h.put 9 2 (by unfold I64; omega) (by decide) (by decide)
theorem al_put3 (h : SG w0 w b 2 [(7, 1), (9, 2)] 2) : Calls Try.prog 60 #[.pointer (some ⟨b, 0, none⟩), .int .i64 7, .int .u64 3] w fun e w' => e = .returned (.int .i64 0) ∧ SG w0 w' b 2 [(7, 1), (9, 2), (7, 3)] 3 := h.put 7 3 (by unfold I64; omega) (by decide) (by decide)
theorem al_put4 (h : SG w0 w b 2 [(7, 1), (9, 2), (7, 3)] 3) : Calls Try.prog 60 #[.pointer (some ⟨b, 0, none⟩), .int .i64 8, .int .u64 4] w fun e w' => e = .returned (.int .i64 6) ∧ SG w0 w' b 2 [(7, 1), (9, 2), (7, 3)] 4 := h.put 8 4 (by unfold I64; omega) (by decide) (by decide)
theorem al_get1 {n : Nat} (h : SG w0 w b 2 [(7, 1), (9, 2), (7, 3)] n) : Calls Try.prog 53 #[.pointer (some ⟨b, 0, none⟩), .int .i64 7] w fun e w' => e = .returned (.tuple #[.int .u64 3, .bool true]) ∧ w = w' := get_calls h.1 7 (by unfold I64; omega)
theorem al_get2 {n : Nat} (h : SG w0 w b 2 [(7, 1), (9, 2)] n) : Calls Try.prog 53 #[.pointer (some ⟨b, 0, none⟩), .int .i64 7] w fun e w' => e = .returned (.tuple #[.int .u64 1, .bool true]) ∧ w = w' := get_calls h.1 7 (by unfold I64; omega)
theorem wf3 : Wf [(7, 1), (9, 2), (7, 3)] := by intro p hp; simp at hp; rcases hp with rfl | rfl | rfl <;> (unfold I64; omega)
theorem wf2 : Wf [(7, 1), (9, 2)] := by intro p hp; simp at hp; rcases hp with rfl | rfl <;> (unfold I64; omega)
theorem al_back1 {n : Nat} (h : SG w0 w b 2 [(7, 1), (9, 2), (7, 3)] n) : Calls Try.prog 42 #[.pointer (some ⟨b, 0, none⟩), .int .i64 2] w fun e w' => e = .returned (.bool true) ∧ SG w0 w' b 2 [(7, 1), (9, 2)] n := h.back wf3 (by decide) 2
theorem al_back2 {n : Nat} (h : SG w0 w b 2 [(7, 1), (9, 2)] n) : Calls Try.prog 42 #[.pointer (some ⟨b, 0, none⟩), .int .i64 3] w fun e w' => e = .returned (.bool false) ∧ SG w0 w' b 2 [(7, 1), (9, 2)] n := h.back wf2 (by decide) 3
theorem al_mark {n : Nat} (h : SG w0 w b 2 [(7, 1), (9, 2)] n) : Calls Try.prog 36 #[.pointer (some ⟨b, 0, none⟩)] w fun e w' => e = .returned (.int .i64 2) ∧ w = w' := mark_calls h.1
theorem al_len {n : Nat} (h : SG w0 w b 2 [(7, 1), (9, 2)] n) : Calls Try.prog 56 #[.pointer (some ⟨b, 0, none⟩)] w fun e w' => e = .returned (.int .i64 2) ∧ w = w' := len_calls h.1
theorem al_room {n : Nat} (h : SG w0 w b 2 [(7, 1), (9, 2)] n) : Calls Try.prog 61 #[.pointer (some ⟨b, 0, none⟩)] w fun e w' => e = .returned (.int .i64 2) ∧ w = w' := room_calls h.1
theorem al_all {n : Nat} (h : SG w0 w b 2 [(7, 1), (9, 2), (7, 3)] n) : Calls Try.prog 62 #[.pointer (some ⟨b, 0, none⟩), .int .i64 9] w fun e w' => Made 129 w [(7, 3), (9, 2)] e w' ∧ SG w0 w' b 2 [(7, 1), (9, 2), (7, 3)] n := h.all (by decide) 9 (by decide)
end
end Go.Proofs.Ytebffkoonbkhnaa
