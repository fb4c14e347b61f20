/- Law 08's alive. -/
import Derived.Test.YtebffkoonbkhnaaWsW
import Derived.Deep.QuietTactic
import Derived.BigQuiet
import Derived.Deep.RegionHeld3
import Derived.Deep.RegionWith
import Derived.Deep.DeepCutAuto
namespace Go.Proofs.Ytebffkoonbkhnaa
open Go.RowKit Go.Maps

theorem al_new {w0 w : World} (k : Kept (fun _ => False) w0 w) : Calls Try.prog 31 #[.int .i64 2] w fun e w' => ∃ b, e = .returned (.pointer (some ⟨b, 0, none⟩)) ∧ SG w0 w' b 2 [] 0 := SG.new k 2
/-- The own set, and a row's block beside it. -/
def SR (g : Nat) (w0 w : World) (b : Nat) (room : Int) (ps : List (Int × Int)) (n : Nat) : Prop := ISet w b room ps n (fun x => w0.heap.size ≤ x ∧ x ≠ g) ∧ Kept (fun _ => False) w0 w
section
variable {w0 w w' : World} {g b : Nat} {room : Int} {ps : List (Int × Int)} {n : Nat}
theorem SR.keep (h : SR g w0 w b room ps n) (k : Kept (fun _ => False) w w') : SR g w0 w' b room ps n := ⟨h.1.keep k, h.2.trans k⟩
theorem SR.sg (h : SR g w0 w b room ps n) : SG w0 w b room ps n := ⟨h.1.mono (fun _ _ hx => hx.1), h.2⟩
theorem SR.back (h : SR g w0 w b room ps n) (hw : Wf ps) (hp : ps.length ≤ 60000) (mark : Int) :
    Calls Try.prog 42 #[.pointer (some ⟨b, 0, none⟩), .int .i64 mark] w fun e w' => e = .returned (.bool (decide (0 ≤ mark ∧ mark ≤ ps.length))) ∧ SR g w0 w' b room (if 0 ≤ mark ∧ mark ≤ ps.length then ps.take mark.toNat else ps) n ∧ Kept (fun x => w0.heap.size ≤ x ∧ x ≠ g) w w' :=
  (back_calls h.1 hw hp mark).mono fun _ _ ⟨h1, h2, h3⟩ => ⟨h1, ⟨h2, keptOwn h.2 (h3.mono (fun _ _ hx => hx.1))⟩, h3⟩
theorem SG.all2 (h : SG w0 w b room ps n) (hp : ps.length ≤ 60000) (most : Int) (hm : most ≤ 9223372036854775807) :
    Calls Try.prog 62 #[.pointer (some ⟨b, 0, none⟩), .int .i64 most] w fun e w' => ∃ v, e = .returned v ∧ w'.ownsRow 0 129 2 v ((ents ps).take most.toNat).length (entL ((ents ps).take most.toNat)) ∧ (∀ g, v.ownBlock = some g → w.heap.size ≤ g) ∧ (∀ g, v.ownBlock = some g → SR g w0 w' b room ps n) ∧ Kept (fun _ => False) w w' :=
  (lawAll h.1 hp most hm).mono fun _ _ ⟨v, h1, h2, h3, h4⟩ => ⟨v, h1, h2, h3, fun g hg => ⟨((h.1.mono (G := fun x => w0.heap.size ≤ x ∧ x ≠ g) (fun x hx hf => ⟨hf, fun e => by have := h3 g hg; omega⟩))).keep h4, h.2.trans h4⟩, h4⟩
end
section
variable {w0 w : World} {g b : Nat}
theorem al_all2 {n : Nat} (h : SG w0 w b 2 [(7, 1), (9, 2), (7, 3)] n) : Calls Try.prog 62 #[.pointer (some ⟨b, 0, none⟩), .int .i64 9] w fun e w' => ∃ g c, e = .returned (.slice (some ⟨g, 0, none⟩) 2 c) ∧ SR g w0 w' b 2 [(7, 1), (9, 2), (7, 3)] n ∧ w'.cell? ⟨g, 0, none⟩ = some (.int .i64 7) := by
  refine (h.all2 (by decide) 9 (by decide)).mono fun e w' ⟨v, he, ho, _, hs, _⟩ => ?_
  obtain ⟨g, c, rfl, _⟩ := own_some ho (by decide)
  exact ⟨g, c, he, hs g rfl, (ent_cells (k := 0) (e := (7, 3)) ho rfl (by decide)).1⟩
theorem al_back3 {n : Nat} (h : SR g w0 w b 2 [(7, 1), (9, 2), (7, 3)] n) (hc : w.cell? ⟨g, 0, none⟩ = some (.int .i64 7)) : Calls Try.prog 42 #[.pointer (some ⟨b, 0, none⟩), .int .i64 2] w fun e w' => e = .returned (.bool true) ∧ SR g w0 w' b 2 [(7, 1), (9, 2)] n ∧ w'.cell? ⟨g, 0, none⟩ = some (.int .i64 7) :=
  (h.back wf3 (by decide) 2).mono fun _ _ ⟨h1, h2, h3⟩ => ⟨h1, h2, h3.cell_some (fun hx => hx.2 rfl) hc⟩
end
set_option maxRecDepth 100000 in
set_option maxHeartbeats 4000000 in
theorem alive8_calls (w : World) : Calls Try.prog 58 #[] w fun e w' => e = .returned (.bool true) ∧ Kept (fun _ => False) w w' := by
  go_enter Try.func58, Try.ntmps58
  go_wp2_with (first
    | (go_at_call 31; (with_reducible refine (al_new (w0 := w) (Kept.refl _ _)).mono ?_); rintro e w1 ⟨b, rfl, h1⟩; have H1 := Lib.hid h1; clear h1)
    | (go_at_call 60; (with_reducible refine (al_put1 H1.out).mono ?_); rintro e w2 ⟨rfl, h1⟩; have H2 := Lib.hid h1; clear h1)
    | (go_at_call 60; (with_reducible refine (al_put2 H2.out).mono ?_); rintro e w3 ⟨rfl, h1⟩; have H3 := Lib.hid h1; clear h1)
    | (go_at_call 36; (with_reducible refine (al_mark H3.out).mono ?_); rintro e w4 ⟨rfl, rfl⟩)
    | (go_at_call 60; (with_reducible refine (al_put3 H3.out).mono ?_); rintro e w5 ⟨rfl, h1⟩; have H5 := Lib.hid h1; clear h1)
    | (go_at_call 60; (with_reducible refine (al_put4 H5.out).mono ?_); rintro e w6 ⟨rfl, h1⟩; have H6 := Lib.hid h1; clear h1)
    | (go_at_call 53; (with_reducible refine (al_get1 H6.out).mono ?_); rintro e w7 ⟨rfl, rfl⟩)
    | (go_at_call 62; (with_reducible refine (al_all2 H6.out).mono ?_); rintro e w8 ⟨g, cc, rfl, h1, h2⟩; have H8 := Lib.hid h1; have C8 := Lib.hid h2; clear h1 h2)
    | (go_at_call 42; (with_reducible refine (al_back3 H8.out C8.out).mono ?_); rintro e w9 ⟨rfl, h1, h2⟩; have H9 := Lib.hid h1; clear h1)
    | (go_at_call 53; (with_reducible refine (al_get2 H9.out.sg).mono ?_); rintro e w10 ⟨rfl, rfl⟩)
    | (go_at_call 56; (with_reducible refine (al_len H9.out.sg).mono ?_); rintro e w11 ⟨rfl, rfl⟩)
    | (go_at_call 61; (with_reducible refine (al_room H9.out.sg).mono ?_); rintro e w12 ⟨rfl, rfl⟩)
    | (go_at_call 42; (with_reducible refine (al_back2 H9.out.sg).mono ?_); rintro e w13 ⟨rfl, h13⟩))
  go_ret
  exact ⟨rfl, h13.2⟩
end Go.Proofs.Ytebffkoonbkhnaa
