/- WsetBack: the walk of the law. -/
import Derived.Test.YthjkodjpopcjaaaWsY
import Derived.Test.YthjkodjpopcjaaaWsFm
namespace Go.Proofs.Ythjkodjpopcjaaa
open Go.RowKit Go.Maps

theorem putsS_next {r : Int} {ps l : List (Int × Int)} {k : Nat} {e : Int × Int} (h : l[k]? = some e) : putsS r ps (l.take (k + 1)) = putS r (putsS r ps (l.take k)) e := by
  obtain ⟨hk, rfl⟩ := List.getElem?_eq_some_iff.1 h
  rw [List.take_succ_eq_append_getElem hk, putsS_snoc]
def WfE (l : List (Int × Int)) : Prop := ∀ e ∈ l, I64 e.1 ∧ 0 ≤ e.2 ∧ e.2 ≤ 18446744073709551615
theorem WfE.at {l : List (Int × Int)} (h : WfE l) {k : Nat} {e : Int × Int} (he : l[k]? = some e) : I64 e.1 ∧ 0 ≤ e.2 ∧ e.2 ≤ 18446744073709551615 := h e (List.mem_of_getElem? he)
theorem Wf.putsS {r : Int} : ∀ {l ps : List (Int × Int)}, Wf ps → WfE l → Wf (Go.Proofs.Ythjkodjpopcjaaa.putsS r ps l)
  | [], _, h, _ => h
  | p :: l, _, h, hl => Wf.putsS (l := l) (Wf.putS h (hl p (by simp)).1) (fun e he => hl e (by simp [he]))
/-- The head of a loop that puts all of a row. -/
def PutRel (G : Nat → Prop) (R : World → Prop) (w0 : World) (b : Nat) (r : Int) (PS l : List (Int × Int)) (n0 : Nat) (i : Value) (wr : World) : Prop :=
  ∃ (W : World) (k : Nat), W = wr ∧ i = .int .i64 k ∧ k ≤ l.length ∧ SX G R w0 W b r (putsS r PS (l.take k)) (n0 + k)

def GetRel (G : Nat → Prop) (R : World → Prop) (w0 : World) (b : Nat) (r : Int) (ps : List (Int × Int)) (m n0 : Nat) (i : Value) (wr : World) : Prop :=
  ∃ (W : World) (k : Nat), W = wr ∧ i = .int .i64 k ∧ k ≤ m ∧ SX G R w0 W b r ps n0
def isE (x v : Int) (t : Int × Int) : Bool := t.1 == x && t.2 == v
/-- The head of the loop that looks whether an entry is there. -/
def InRel (es : List (Int × Int)) (x v : Int) (W5 : World) (q i : Value) (wr : World) : Prop :=
  ∃ (W : World) (j : Nat), W = wr ∧ i = .int .i64 j ∧ j ≤ es.length ∧ q = .bool ((es.take j).any (isE x v)) ∧ Kept (fun _ => False) W5 W
theorem any_next {es : List (Int × Int)} {j : Nat} {t : Int × Int} (x v : Int) (h : es[j]? = some t) : (es.take (j + 1)).any (isE x v) = ((es.take j).any (isE x v) || isE x v t) := by
  obtain ⟨hk, rfl⟩ := List.getElem?_eq_some_iff.1 h
  rw [List.take_succ_eq_append_getElem hk, List.any_append]
  simp
theorem any_look (ps : List (Int × Int)) (x : Int) : (ents ps).any (isE x ((look (ents ps) x).getD 0)) = (look (ents ps) x).isSome := by
  cases hl : look (ents ps) x with
  | none =>
    rw [Option.isSome_none, List.any_eq_false]
    intro t ht
    obtain ⟨i, hi, rfl⟩ := List.getElem_of_mem ht
    have := ents_look ps (List.getElem?_eq_getElem hi)
    unfold isE
    by_cases he : (ents ps)[i].1 = x
    · rw [he, hl] at this; cases this
    · simp [he]
  | some v =>
    obtain ⟨i, hi⟩ := idx_of_look hl
    obtain ⟨v', h1, h2⟩ := idx_some hi
    rw [hl] at h2
    cases h2
    rw [Option.isSome_some, List.any_eq_true]
    exact ⟨(x, v), List.mem_of_getElem? h1, by simp [isE]⟩

end Go.Proofs.Ythjkodjpopcjaaa
