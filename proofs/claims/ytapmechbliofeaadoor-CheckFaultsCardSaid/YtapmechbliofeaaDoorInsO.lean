/- Layer 3 (instr): the laws' arguments opened; what the listed tables give. -/
import Derived.Test.YtapmechbliofeaaDoorInsD
import Derived.Test.YtapmechbliofeaaDoorCards
import Derived.Test.YtapmechbliofeaaDoorTie
import Derived.ProofKit
import Derived.Lib.SmallJoins
import Derived.Deep.Slices
import Derived.Carry
import Derived.LaidMore
import Derived.OpenShut
import Derived.Stop.Joined
namespace Go.Proofs.YtapmechbliofeaaDoor
open Go.ChangeShapes Go.WideShapes Go.ChangeAt Go.RowKit Go.Joins Go.Deep

theorem own : ownKnob Tryd.prog.godebug = none := by kernel_rfl
theorem laidOut : laidOutB Tryd.prog = true := by kernel_rfl
theorem cellsU64 : Tryd.prog.cellsOf 36 = 1 := by kernel_rfl
theorem cellsInt : Tryd.prog.cellsOf 3 = 1 := by kernel_rfl
theorem cellsStr : Tryd.prog.cellsOf 9 = 1 := by kernel_rfl
theorem cellsU8 : Tryd.prog.cellsOf 5 = 1 := by kernel_rfl
theorem cellsIns : Tryd.prog.cellsOf 38 = 5 := by kernel_rfl
def Int64 (x : Int) : Prop := -9223372036854775808 ≤ x ∧ x ≤ 9223372036854775807
def InsD.Ok (d : InsD) : Prop := Int64 d.op ∧ Int64 d.a ∧ Int64 d.b ∧ Int64 d.c ∧ 0 ≤ d.imm ∧ d.imm < 18446744073709551616

section
variable {H : Type} {enc : TypeId × Value → H} {w : World} {base : Nat} {spare : Nat → Bool} {held : Bool}
theorem open_int64 {r : Reach} {b0 : Nat} {v : Value} {d : DataW H} {p : List MemPlace} (hv : Value.okWide Tryd.prog w r b0 3 v) (h : DataW.Trod enc Tryd.prog w base spare held 3 v d p) : ∃ x : Int, v = .int .i64 x ∧ Int64 x := by
  obtain ⟨x, rfl, _, _, hw⟩ := open_int Tryd.underlying3 hv h
  exact ⟨x, rfl, bounds_i64 hw⟩
theorem open_str {r : Reach} {b0 : Nat} {v : Value} {d : DataW H} {p : List MemPlace} (hv : Value.okWide Tryd.prog w r b0 9 v) (h : DataW.Trod enc Tryd.prog w base spare held 9 v d p) : ∃ s : ByteArray, v = .string s ∧ s.size ≤ maxLen := by
  obtain ⟨s, rfl⟩ := okWide_string Tryd.underlying9 hv
  obtain ⟨fuel, hf⟩ := h
  obtain ⟨s', hs, _, hm⟩ := DataW.trod_string Tryd.underlying9 hf
  simp [Value.cells] at hs
  subst hs
  exact ⟨s, rfl, hm⟩

theorem open_insL {fuel : Nat} {cs : List Value} {x : DataW H × List MemPlace} (h : DataW.trod enc Tryd.prog w base spare held fuel 38 cs = some x) : ∃ d : InsD, cs = d.L ∧ d.Ok := by
  obtain ⟨xs, n, _, _, hl, hlen, hf⟩ := DataW.trod_struct Tryd.underlying38 h
  have hl2 : cs.length = 5 := hl.trans cellsIns
  match cs, hl2, xs, hlen with
  | [c0, c1, c2, c3, c4], _, [y0, y1, y2, y3, y4], _ =>
    obtain ⟨op, e0, _, b0⟩ := DataW.trod_int Tryd.underlying3 (hf 0 _ rfl)
    obtain ⟨a, e1, _, b1⟩ := DataW.trod_int Tryd.underlying3 (hf 1 _ rfl)
    obtain ⟨b, e2, _, b2⟩ := DataW.trod_int Tryd.underlying3 (hf 2 _ rfl)
    obtain ⟨c, e3, _, b3⟩ := DataW.trod_int Tryd.underlying3 (hf 3 _ rfl)
    obtain ⟨imm, e4, _, b4⟩ := DataW.trod_int Tryd.underlying36 (hf 4 _ rfl)
    simp [cellsInt, cellsU64] at e0 e1 e2 e3 e4
    exact ⟨⟨op, a, b, c, imm⟩, by simp [InsD.L, e0, e1, e2, e3, e4], bounds_i64 b0, bounds_i64 b1, bounds_i64 b2, bounds_i64 b3, by have := bounds_u64 b4; simpa using this.1, by have := (bounds_u64 b4).2; show imm < _; omega⟩
theorem open_ins {r : Reach} {b0 : Nat} {v : Value} {d : DataW H} {p : List MemPlace} (hv : Value.okWide Tryd.prog w r b0 38 v) (h : DataW.Trod enc Tryd.prog w base spare held 38 v d p) :
    ∃ s : InsD, v = insV s ∧ s.Ok := by
  obtain ⟨cs, rfl, _⟩ := okWide_struct Tryd.underlying38 hv
  obtain ⟨fuel, hf⟩ := h
  obtain ⟨s, hc, ho⟩ := open_insL hf
  exact ⟨s, by rw [show cs = s.L.toArray from Array.ext' hc]; rfl, ho⟩
end

/-! ### The listed tables -/
def laidI : List (String × DataW Unit) := [("tumbler/instr.fields", Rows.laid_tumbler_instr_fields)]
theorem gFields : Tryd.prog.globalNamed "tumbler/instr.fields" = some 0 := by kernel_rfl
theorem tFields : (Tryd.prog.globals[0]?).map (·.type) = some 53 := by kernel_rfl
theorem door_met (os : Os) (args : Array Value) : laidMetH Tryd.prog laidI ((World.doorLaid Tryd.prog 400 os).forCall (fun _ _ => 0) ⟨#[], args, []⟩).memory :=
  laidMetH_of_parts3 (fuel := 8) (laidMet_of_run' 8 (by kernel_rfl) (by kernel_rfl)) (by kernel_rfl) (by kernel_rfl)

/-- The cells of an array of strings that reads as a list. -/
theorem strings_of {enc : TypeId × Value → Unit} {w : World} {base : Nat} {spare : Nat → Bool} {held : Bool} {fuel : Nat} {cs : List Value} {x : DataW Unit × List MemPlace} {L : List (List UInt8)} (h : DataW.trod enc Tryd.prog w base spare held fuel 53 cs = some x)
    (hx : x.1 = .agg (L.map fun l => .lit (.string l))) : ∀ (k : Nat) (l : List UInt8), k < 22 → L[k]? = some l → cs[k]? = some (.string ⟨l.toArray⟩) := by
  intro k l hk hl
  obtain ⟨xs, m, rfl, rfl, hlen, hn, hel⟩ := DataW.trod_array Tryd.underlying53 h
  simp only [DataW.agg.injEq] at hx
  have h1 := hel k hk
  rw [cellsStr, Nat.mul_one] at h1
  obtain ⟨y, hy⟩ : ∃ y, xs[k]? = some y := ⟨xs[k], List.getElem?_eq_getElem (by omega)⟩
  rw [hy] at h1
  obtain ⟨s, hs, hyv, _⟩ := DataW.trod_string Tryd.underlying9 h1
  have hyx : (xs.map (·.1))[k]? = some y.1 := by simp [hy]
  rw [hx, List.getElem?_map, hl, hyv] at hyx
  simp at hyx
  have hc : (cs.drop k)[0]? = some (.string s) := by
    have : ((cs.drop k).take 1)[0]? = some (.string s) := by rw [hs]; rfl
    rwa [List.getElem?_take_of_lt (by omega)] at this
  rw [List.getElem?_drop, Nat.add_zero] at hc
  rw [hc, hyx]

theorem tabs_of {W : World} (h : laidMetH Tryd.prog laidI W) : Tabs W := by
  rw [MakeChecks.laidMetH_plain _ _ _ (by kernel_rfl)] at h
  obtain ⟨ps, ⟨g1, t1, cs1, f1, p1, q1, hg1, ht1, hv1, hd1, _, _⟩, _, _⟩ := h
  obtain rfl := Option.some.inj (gFields.symm.trans hg1)
  obtain rfl := Option.some.inj (tFields.symm.trans ht1)
  refine ⟨fun k hk => ?_⟩
  rw [World.var?_cell hg1 hv1 k, ← Array.getElem?_toList]
  exact strings_of (L := (List.range 22).map flS) hd1 rfl k (flS k) hk (by simp [hk])

theorem trod_places {H : Type} {enc : TypeId × Value → H} {W : World} {t : TypeId} {v : Value} {d : DataW H} {p : List MemPlace} (h : DataW.Trod enc Tryd.prog W 0 (fun _ => true) true t v d p) : ∀ x ∈ p, x.block < W.heap.size := by
  obtain ⟨m, hm⟩ := h
  exact DataW.trod_lt m _ _ _ hm

end Go.Proofs.YtapmechbliofeaaDoor
