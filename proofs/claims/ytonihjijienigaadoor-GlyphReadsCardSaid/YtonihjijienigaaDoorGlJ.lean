/- Layer 2 (glyph): Print. -/
import Derived.Test.YtonihjijienigaaDoorGlG
import Derived.Test.YtonihjijienigaaDoorGlI
import Derived.Lib.ItoaLen
namespace Go.Proofs.YtonihjijienigaaDoor
open Go.RowKit

def wrP (t : Tok) : List UInt8 := if t.kind = 1 then Lib.decDigits t.num else if t.kind = 3 then [10] else t.text.data.toList
/-- Tokens as text. -/
def printP : List Tok → Bool → List UInt8
  | [], _ => []
  | t :: l, fresh => if t.kind < 0 ∨ 3 < t.kind then printP l fresh else (if fresh = false ∧ t.kind ≠ 3 then [32] else []) ++ wrP t ++ printP l (decide (t.kind = 3))
def TokOk (m : Nat) (t : Tok) : Prop := t.num < 18446744073709551616 ∧ t.text.size ≤ m
theorem decDigits_le (u : Nat) (h : u < 18446744073709551616) : (Lib.decDigits u).length ≤ 20 := by
  rw [Lib.decDigits_length]
  exact Lib.nDigits_le20 u h
theorem wrP_le {m : Nat} {t : Tok} (h : TokOk m t) (hm : 20 ≤ m) : (wrP t).length ≤ m := by
  unfold wrP
  split
  · have := decDigits_le t.num h.1; omega
  · split
    · simp; omega
    · rw [Array.length_toList]; exact h.2
theorem builder_below {T e : TypeId} {B b : Nat} {bs : List Value} {W W' : World} (h : Lib.IsBuilderF T e B b bs W) (hb : Below W.heap.size W W') : Lib.IsBuilderF T e B b bs W' := by
  have one : ∀ p, Lib.BuilderAtF T e B b p bs W → Lib.BuilderAtF T e B b p bs W' := by
    rintro p ⟨hB, v, hc, ho, hne⟩
    have hlt : b < W.heap.size := (Array.getElem?_eq_some_iff.1 hc).1
    refine ⟨hB, v, (hb.block b hlt).trans hc, ?_, hne⟩
    refine ⟨ho.1, ?_⟩
    rcases ho.2 with hn | ⟨g, cap, cur, fz, rfl, hbg, hg, rest⟩
    · exact .inl hn
    · exact .inr ⟨g, cap, cur, fz, rfl, hbg, (hb.block g (Array.getElem?_eq_some_iff.1 hg).1).trans hg, rest⟩
  exact h.elim (fun x => .inl (one _ x)) (fun x => .inr (one _ x))
theorem sne' {a b : Nat} (h : a ≠ b) : some a ≠ some b := fun e => h (by injection e)
theorem byteCell1 (c : UInt8) : Lib.byteCells [c] = [.int .u8 (c.toNat : Int)] := rfl

set_option maxRecDepth 100000 in
set_option maxHeartbeats 1000000 in
theorem written_calls (t : Tok) (hn : t.num < 18446744073709551616) (w : World) (hL : LibV w) :
    Calls Tryd.prog 25 #[tokV t] w fun e w' => e = .returned (.string (⟨(wrP t).toArray⟩ : ByteArray)) ∧ Below w.heap.size w w' := by
  have HF := Lib.hid (fun W hl => formatUint_calls t.num hn W hl)
  have HL1 := Lib.hid (hL.on ((Below.refl _ w).alloc (Nat.le_refl _) (.cells #[.int .i64 t.kind, .string t.text, .int .u64 t.num, .int .i64 t.at_, .int .i64 t.line] 39)))
  have HB1 := Lib.hid ((Below.refl _ w).alloc (Nat.le_refl _) (.cells #[.int .i64 t.kind, .string t.text, .int .u64 t.num, .int .i64 t.at_, .int .i64 t.line] 39))
  clear hL hn
  unfold wrP tokV
  by_cases h1 : t.kind = 1
  · rw [if_pos h1]
    have n1 : (t.kind == 1) = true := by simpa using h1
    clear h1
    go_enter Tryd.func25, Tryd.ntmps25
    go_wp2_with (go_at_call 44; refine (HF.out _ HL1.out).mono ?_; rintro e w' ⟨rfl, hb⟩)
    go_ret
    exact ⟨rfl, HB1.out.trans (Joins.below_le hb (by simp))⟩
  · rw [if_neg h1]
    have n1 : (t.kind == 1) = false := by simpa using h1
    clear h1
    by_cases h3 : t.kind = 3
    · rw [if_pos h3]
      have n3 : (t.kind == 3) = true := by simpa using h3
      clear h3
      go_enter Tryd.func25, Tryd.ntmps25
      go_wp2_with fail
      go_ret
      exact ⟨rfl, HB1.out⟩
    · rw [if_neg h3]
      have n3 : (t.kind == 3) = false := by simpa using h3
      clear h3
      go_enter Tryd.func25, Tryd.ntmps25
      go_wp2_with fail
      go_ret
      exact ⟨rfl, HB1.out⟩

set_option maxRecDepth 100000 in
set_option maxHeartbeats 4000000 in
theorem print_calls (A : Option Addr) (l : List Tok) (c : Nat) (w : World) (hA : TokAt w A l) (hl : l.length ≤ 70000) (hok : ∀ t ∈ l, TokOk 70000 t) (hL : LibV w) :
    Calls Tryd.prog 16 #[.slice A l.length c] w fun e w' => e = .returned (.string (⟨(printP l true).toArray⟩ : ByteArray)) ∧ Below w.heap.size w w' := by
  obtain ⟨P, hP⟩ : ∃ P, printP l true = P := ⟨_, rfl⟩
  rw [hP]
  obtain ⟨n, hn⟩ : ∃ n, l.length = n := ⟨_, rfl⟩
  rw [hn]
  have HP := Lib.hid hP
  have HN := Lib.hid hn
  have HOK := Lib.hid hok
  have HL := Lib.hid hL
  have HA := Lib.hid hA
  have hn7 : n ≤ 70000 := by omega
  obtain ⟨m, hm⟩ : ∃ m : Nat, m = 70001 := ⟨_, rfl⟩
  have HM := Lib.hid hm
  clear hm
  clear hP hn hok hL hA hl
  go_enter Tryd.func16, Tryd.ntmps16
  go_wp2
  go_loopw [4, 9] (fun vf vk wr => ∃ (k : Nat) (fr : Bool) (dn : List UInt8), vf = .bool fr ∧ vk = .int .i64 (k : Int) ∧ Hid (k ≤ n) ∧ Hid (dn ++ printP (l.drop k) fr = P) ∧ Hid (dn.length ≤ k * m) ∧
      Hid (Lib.IsBuilderF 60 5 w.heap.size w.heap.size (Lib.byteCells dn) wr) ∧ Hid (Below w.heap.size w wr))
    (fun _ vk _ => n - (intOf vk).toNat)
  case atStart =>
    refine ⟨0, true, [], rfl, rfl, Lib.hid (by omega), Lib.hid HP.out, Lib.hid (by simp), Lib.hid (Lib.IsBuilderF.of (Lib.fresh_isBuilder _ _ w)), Lib.hid ((Below.refl _ w).alloc (Nat.le_refl _) _)⟩
  case round =>
    obtain ⟨k, fr, dn, rfl, rfl, HK, HD, HDL, HBU, HB⟩ := hrel
    by_cases hk : k < n
    · obtain ⟨b, off, rfl, hb, q0, q1, q2, q3, q4⟩ := tok_cells (HA.out.on HB.out) (k := k) (by rw [HN.out]; exact hk)
      obtain ⟨T, hT⟩ : ∃ T, l[k]'(by rw [HN.out]; exact hk) = T := ⟨_, rfl⟩
      rw [hT] at q0 q1 q2 q3 q4
      have hdrop : l.drop k = T :: l.drop (k + 1) := by rw [List.drop_eq_getElem_cons (by rw [HN.out]; exact hk), hT]
      have hmem : T ∈ l := hT ▸ List.getElem_mem _
      have hok := HOK.out T hmem
      have hlen := wrP_le hok (by omega)
      have hd := HD.out
      rw [hdrop, printP] at hd
      have HHD := Lib.hid hd
      have HOKT := Lib.hid hok
      have HLEN := Lib.hid hlen
      clear hdrop hmem hok hlen hd HD
      go_wp2_with (refine wpList_store_tok wr.heap.size _ T (heap_alloc_new _ _) rfl _ _ rfl rfl rfl rfl ?_; refine Hid.out ?_)
      refine Lib.hid ?_
      have hb2 := below_setRow ((Below.refl _ wr).alloc (Nat.le_refl _) (.cells #[.int .i64 0, .string ⟨#[]⟩, .int .u64 0, .int .i64 0, .int .i64 0] 39)) (Nat.le_refl _) (tokC T)
      have hg2 : Blk ((wr.alloc (.cells #[.int .i64 0, .string ⟨#[]⟩, .int .u64 0, .int .i64 0, .int .i64 0] 39)).setRow wr.heap.size (tokC T)) wr.heap.size 39 (tokC T) := heap_setRow _ _ _ _ _ _ (heap_alloc_new _ _)
      obtain ⟨g, hg⟩ : ∃ g, wr.heap.size = g := ⟨_, rfl⟩
      have hgw : w.heap.size < g := by
        have h1 := HBU.out
        rcases h1 with h1 | h1 <;> (have := h1.lt; omega)
      obtain ⟨w2, hw2⟩ : ∃ w2, (wr.alloc (.cells #[.int .i64 0, .string ⟨#[]⟩, .int .u64 0, .int .i64 0, .int .i64 0] 39)).setRow wr.heap.size (tokC T) = w2 := ⟨_, rfl⟩
      rw [hw2] at hb2 hg2 ⊢
      have HBU2 := Lib.hid (builder_below HBU.out hb2)
      have HB2 := Lib.hid (HB.out.trans (Joins.below_le hb2 HB.out.size))
      rw [hg] at hg2 ⊢
      have HG2 := Lib.hid hg2
      clear hw2 hb2 hg2 q0 q1 q2 q3 q4 hg
      have keep : ∀ (W W' : World), Blk W g 39 (tokC T) → Lib.OthersKept 5 (some w.heap.size) W W' → Blk W' g 39 (tokC T) := fun W W' h k => k g _ h (sne' (by omega)) (fun c fz e => by injection e with _ e; exact absurd e (by decide))
      have KEEP := Lib.hid keep
      clear keep
      have p0 : w2.cell? ⟨g, 0, none⟩ = some (.int .i64 T.kind) := HG2.out.cell 0
      have p1 : w2.cell? ⟨g, 1, none⟩ = some (.string T.text) := HG2.out.cell 1
      have p2 : w2.cell? ⟨g, 2, none⟩ = some (.int .u64 T.num) := HG2.out.cell 2
      have p3 : w2.cell? ⟨g, 3, none⟩ = some (.int .i64 T.at_) := HG2.out.cell 3
      have p4 : w2.cell? ⟨g, 4, none⟩ = some (.int .i64 T.line) := HG2.out.cell 4
      have hk1 : (k : Int) + 1 ≤ 70000 := by omega
      by_cases hneg : T.kind < 0
      · have e : dn ++ printP (l.drop (k + 1)) fr = P := by rw [← HHD.out, if_pos (Or.inl hneg)]
        have HE := Lib.hid e
        clear e
        go_wp2_with fail
        go_round
        case rel => exact ⟨k + 1, fr, dn, rfl, by go_num, Lib.hid (by omega), HE, Lib.hid (by have := HDL.out; rw [Nat.succ_mul]; omega), HBU2, HB2⟩
        case measure => simp [intOf]; omega
      · by_cases hbig : 3 < T.kind
        · have e : dn ++ printP (l.drop (k + 1)) fr = P := by rw [← HHD.out, if_pos (Or.inr hbig)]
          have HE := Lib.hid e
          clear e
          go_wp2_with fail
          go_round
          case rel => exact ⟨k + 1, fr, dn, rfl, by go_num, Lib.hid (by omega), HE, Lib.hid (by have := HDL.out; rw [Nat.succ_mul]; omega), HBU2, HB2⟩
          case measure => simp [intOf]; omega
        · have hnb : ¬ (T.kind < 0 ∨ 3 < T.kind) := by omega
          have HNB := Lib.hid hnb
          clear hnb
          have hbnd : dn.length + 1 + 70000 ≤ 140737488355328 := by
            have h1 := HDL.out
            have h2 : k * m ≤ 70000 * 70001 := Nat.mul_le_mul (by omega) (by rw [HM.out]; exact Nat.le_refl _)
            omega
          have HBND := Lib.hid hbnd
          clear hbnd
          have hz : w.heap.size ≤ w2.heap.size := HB2.out.size
          by_cases hsp : fr = false ∧ T.kind ≠ 3
          · have e : (dn ++ [32]) ++ wrP T ++ printP (l.drop (k + 1)) (decide (T.kind = 3)) = P := by
              rw [← HHD.out, if_neg HNB.out, if_pos hsp]
              simp only [List.append_assoc]
            have HE := Lib.hid e
            obtain ⟨rfl, h3⟩ := hsp
            have n3 : (T.kind == 3) = false := by simpa using h3
            have m3 : (T.kind != 3) = true := by simpa using h3
            have HD3 := Lib.hid (decide_eq_false h3)
            clear e h3
            have HWB := Lib.hid (Tryd.Builder_WriteByte_k w.heap.size w.heap.size _ 32 w2 HBU2.out (by rw [Lib.byteCells_length]; have := HBND.out; omega) hz)
            go_wp2_with (go_at_call 23; refine HWB.out.mono ?_; rintro e w3 ⟨rfl, hbu3, hb3, ho3⟩; refine Hid.out ?_)
            refine Lib.hid ?_
            have hbu3' : Lib.IsBuilderF 60 5 w.heap.size w.heap.size (Lib.byteCells (dn ++ [32])) w3 := by rw [Lib.byteCells_append]; exact .inr hbu3
            have HG3 := Lib.hid (KEEP.out _ _ HG2.out ho3)
            have HB3 := Lib.hid (HB2.out.trans hb3)
            have HBU3 := Lib.hid hbu3'
            have HLL := Lib.hid (show (dn ++ [32]).length ≤ dn.length + 1 by simp)
            clear hbu3 hb3 ho3 hbu3' p0 p1 p2 p3 p4
            obtain ⟨d2, hd2⟩ : ∃ d2, dn ++ [32] = d2 := ⟨_, rfl⟩
            rw [hd2] at HE HBU3 HLL
            clear hd2
            have p0 : w3.cell? ⟨g, 0, none⟩ = some (.int .i64 T.kind) := HG3.out.cell 0
            have p1 : w3.cell? ⟨g, 1, none⟩ = some (.string T.text) := HG3.out.cell 1
            have p2 : w3.cell? ⟨g, 2, none⟩ = some (.int .u64 T.num) := HG3.out.cell 2
            have p3 : w3.cell? ⟨g, 3, none⟩ = some (.int .i64 T.at_) := HG3.out.cell 3
            have p4 : w3.cell? ⟨g, 4, none⟩ = some (.int .i64 T.line) := HG3.out.cell 4
            have HWR := Lib.hid (written_calls T HOKT.out.1 w3 (HL.out.on HB3.out))
            go_wp2_with (go_at_call 25; refine HWR.out.mono ?_; rintro e w4 ⟨rfl, hb4⟩; refine Hid.out ?_)
            refine Lib.hid ?_
            have HG4 := Lib.hid (HG3.out.below hb4 HG3.out.lt)
            have HB4 := Lib.hid (HB3.out.trans (Joins.below_le hb4 HB3.out.size))
            have HBU4 := Lib.hid (builder_below HBU3.out hb4)
            clear hb4
            have HWS := Lib.hid (Tryd.Builder_WriteString_k w.heap.size w.heap.size _ ⟨(wrP T).toArray⟩ w4 HBU4.out (by rw [Lib.byteCells_length]; have := HBND.out; have := HLL.out; have := HLEN.out; have : (ByteArray.mk (wrP T).toArray).size = (wrP T).length := (by simp [ByteArray.size]); omega) HB4.out.size)
            go_wp2_with (go_at_call 24; refine HWS.out.mono ?_; rintro e w5 ⟨rfl, hbu5, hb5, ho5⟩; refine Hid.out ?_)
            refine Lib.hid ?_
            have hbu5' : Lib.IsBuilderF 60 5 w.heap.size w.heap.size (Lib.byteCells (d2 ++ wrP T)) w5 := by rw [Lib.byteCells_append]; exact .inr hbu5
            have HBU5 := Lib.hid hbu5'
            have HB5 := Lib.hid (HB4.out.trans hb5)
            have z0 : w5.cell? ⟨g, 0, none⟩ = some (.int .i64 T.kind) := (KEEP.out _ _ HG4.out ho5).cell 0
            clear hbu5 hbu5' hb5 ho5
            go_wp2_with fail
            go_round
            case rel =>
              refine ⟨k + 1, decide (T.kind = 3), d2 ++ wrP T, ?_, by go_num, Lib.hid (by omega), HE, Lib.hid ?_, HBU5, HB5⟩
              · rw [HD3.out]
              · have h1 := HDL.out; have h2 := HLL.out; have h3 := HLEN.out; have h4 := HM.out
                rw [Nat.succ_mul, List.length_append]; omega
            case measure => simp [intOf]; omega
          · have e : dn ++ wrP T ++ printP (l.drop (k + 1)) (decide (T.kind = 3)) = P := by
              rw [← HHD.out, if_neg HNB.out, if_neg hsp]
              simp only [List.append_assoc, List.nil_append]
            have HE := Lib.hid e
            have HG3 := HG2
            have HB3 := HB2
            have HBU3 := HBU2
            obtain ⟨w3, hw3⟩ : ∃ w3, w2 = w3 := ⟨_, rfl⟩
            subst hw3
            obtain ⟨d2, hd2⟩ : ∃ d2, dn = d2 := ⟨_, rfl⟩
            rw [hd2] at HE HBU3
            have HLL := Lib.hid (show d2.length ≤ dn.length + 1 by rw [hd2]; omega)
            cases fr
            · have h3 : T.kind = 3 := Decidable.byContradiction (fun h => hsp ⟨rfl, h⟩)
              have n3 : (T.kind == 3) = true := by simpa using h3
              have m3 : (T.kind != 3) = false := by simpa using h3
              have HD3 := Lib.hid (decide_eq_true h3)
              clear e h3 hsp
              have HWR := Lib.hid (written_calls T HOKT.out.1 w2 (HL.out.on HB3.out))
              go_wp2_with (go_at_call 25; refine HWR.out.mono ?_; rintro e w4 ⟨rfl, hb4⟩; refine Hid.out ?_)
              refine Lib.hid ?_
              have HG4 := Lib.hid (HG3.out.below hb4 HG3.out.lt)
              have HB4 := Lib.hid (HB3.out.trans (Joins.below_le hb4 HB3.out.size))
              have HBU4 := Lib.hid (builder_below HBU3.out hb4)
              clear hb4
              have HWS := Lib.hid (Tryd.Builder_WriteString_k w.heap.size w.heap.size _ ⟨(wrP T).toArray⟩ w4 HBU4.out (by rw [Lib.byteCells_length]; have := HBND.out; have := HLL.out; have := HLEN.out; have : (ByteArray.mk (wrP T).toArray).size = (wrP T).length := (by simp [ByteArray.size]); omega) HB4.out.size)
              go_wp2_with (go_at_call 24; refine HWS.out.mono ?_; rintro e w5 ⟨rfl, hbu5, hb5, ho5⟩; refine Hid.out ?_)
              refine Lib.hid ?_
              have hbu5' : Lib.IsBuilderF 60 5 w.heap.size w.heap.size (Lib.byteCells (d2 ++ wrP T)) w5 := by rw [Lib.byteCells_append]; exact .inr hbu5
              have HBU5 := Lib.hid hbu5'
              have HB5 := Lib.hid (HB4.out.trans hb5)
              have z0 : w5.cell? ⟨g, 0, none⟩ = some (.int .i64 T.kind) := (KEEP.out _ _ HG4.out ho5).cell 0
              clear hbu5 hbu5' hb5 ho5
              go_wp2_with fail
              go_round
              case rel =>
                refine ⟨k + 1, decide (T.kind = 3), d2 ++ wrP T, ?_, by go_num, Lib.hid (by omega), HE, Lib.hid ?_, HBU5, HB5⟩
                · rw [HD3.out]
                · have h1 := HDL.out; have h2 := HLL.out; have h3 := HLEN.out; have h4 := HM.out
                  rw [Nat.succ_mul, List.length_append]; omega
              case measure => simp [intOf]; omega
            · by_cases h3 : T.kind = 3
              · have n3 : (T.kind == 3) = true := by simpa using h3
                have HD3 := Lib.hid (decide_eq_true h3)
                clear e h3 hsp
                have HWR := Lib.hid (written_calls T HOKT.out.1 w2 (HL.out.on HB3.out))
                go_wp2_with (go_at_call 25; refine HWR.out.mono ?_; rintro e w4 ⟨rfl, hb4⟩; refine Hid.out ?_)
                refine Lib.hid ?_
                have HG4 := Lib.hid (HG3.out.below hb4 HG3.out.lt)
                have HB4 := Lib.hid (HB3.out.trans (Joins.below_le hb4 HB3.out.size))
                have HBU4 := Lib.hid (builder_below HBU3.out hb4)
                clear hb4
                have HWS := Lib.hid (Tryd.Builder_WriteString_k w.heap.size w.heap.size _ ⟨(wrP T).toArray⟩ w4 HBU4.out (by rw [Lib.byteCells_length]; have := HBND.out; have := HLL.out; have := HLEN.out; have : (ByteArray.mk (wrP T).toArray).size = (wrP T).length := (by simp [ByteArray.size]); omega) HB4.out.size)
                go_wp2_with (go_at_call 24; refine HWS.out.mono ?_; rintro e w5 ⟨rfl, hbu5, hb5, ho5⟩; refine Hid.out ?_)
                refine Lib.hid ?_
                have hbu5' : Lib.IsBuilderF 60 5 w.heap.size w.heap.size (Lib.byteCells (d2 ++ wrP T)) w5 := by rw [Lib.byteCells_append]; exact .inr hbu5
                have HBU5 := Lib.hid hbu5'
                have HB5 := Lib.hid (HB4.out.trans hb5)
                have z0 : w5.cell? ⟨g, 0, none⟩ = some (.int .i64 T.kind) := (KEEP.out _ _ HG4.out ho5).cell 0
                clear hbu5 hbu5' hb5 ho5
                go_wp2_with fail
                go_round
                case rel =>
                  refine ⟨k + 1, decide (T.kind = 3), d2 ++ wrP T, ?_, by go_num, Lib.hid (by omega), HE, Lib.hid ?_, HBU5, HB5⟩
                  · rw [HD3.out]
                  · have h1 := HDL.out; have h2 := HLL.out; have h3 := HLEN.out; have h4 := HM.out
                    rw [Nat.succ_mul, List.length_append]; omega
                case measure => simp [intOf]; omega
              · have n3 : (T.kind == 3) = false := by simpa using h3
                have HD3 := Lib.hid (decide_eq_false h3)
                clear e h3 hsp
                have HWR := Lib.hid (written_calls T HOKT.out.1 w2 (HL.out.on HB3.out))
                go_wp2_with (go_at_call 25; refine HWR.out.mono ?_; rintro e w4 ⟨rfl, hb4⟩; refine Hid.out ?_)
                refine Lib.hid ?_
                have HG4 := Lib.hid (HG3.out.below hb4 HG3.out.lt)
                have HB4 := Lib.hid (HB3.out.trans (Joins.below_le hb4 HB3.out.size))
                have HBU4 := Lib.hid (builder_below HBU3.out hb4)
                clear hb4
                have HWS := Lib.hid (Tryd.Builder_WriteString_k w.heap.size w.heap.size _ ⟨(wrP T).toArray⟩ w4 HBU4.out (by rw [Lib.byteCells_length]; have := HBND.out; have := HLL.out; have := HLEN.out; have : (ByteArray.mk (wrP T).toArray).size = (wrP T).length := (by simp [ByteArray.size]); omega) HB4.out.size)
                go_wp2_with (go_at_call 24; refine HWS.out.mono ?_; rintro e w5 ⟨rfl, hbu5, hb5, ho5⟩; refine Hid.out ?_)
                refine Lib.hid ?_
                have hbu5' : Lib.IsBuilderF 60 5 w.heap.size w.heap.size (Lib.byteCells (d2 ++ wrP T)) w5 := by rw [Lib.byteCells_append]; exact .inr hbu5
                have HBU5 := Lib.hid hbu5'
                have HB5 := Lib.hid (HB4.out.trans hb5)
                have z0 : w5.cell? ⟨g, 0, none⟩ = some (.int .i64 T.kind) := (KEEP.out _ _ HG4.out ho5).cell 0
                clear hbu5 hbu5' hb5 ho5
                go_wp2_with fail
                go_round
                case rel =>
                  refine ⟨k + 1, decide (T.kind = 3), d2 ++ wrP T, ?_, by go_num, Lib.hid (by omega), HE, Lib.hid ?_, HBU5, HB5⟩
                  · rw [HD3.out]
                  · have h1 := HDL.out; have h2 := HLL.out; have h3 := HLEN.out; have h4 := HM.out
                    rw [Nat.succ_mul, List.length_append]; omega
                case measure => simp [intOf]; omega
    · have hkn : k = n := by have := HK.out; omega
      subst hkn
      have e : dn = P := by
        have := HD.out
        rw [List.drop_of_length_le (by rw [HN.out]; exact Nat.le_refl _), printP, List.append_nil] at this
        exact this
      subst e
      have HS := Lib.hid (Tryd.Builder_String_any_k w.heap.size w.heap.size dn wr HBU.out HB.out.size)
      go_wp2_with (go_at_call 26; refine HS.out.mono ?_; rintro e w' ⟨rfl, _, hb, _⟩)
      go_ret
      exact ⟨rfl, HB.out.trans hb⟩
end Go.Proofs.YtonihjijienigaaDoor
