/- Layer 2 (glyph): pieces: what would be tokens of a text; its iterator walked. -/
import Derived.Test.YtonihjijienigaaDoorGlB
import Derived.RangeFuncNested
import Derived.RangeFuncBound
import Derived.RangeFuncCalls
import Derived.RangeFuncLeaves
import Derived.Shelf.Abstract
import Derived.Shelf.RegionOpen
import Derived.OwnWalkIn
import Derived.TacticsInMore
import Derived.LoopNIn
import Derived.LoopIn
import Derived.Lib.OthersKept
import Derived.Lib.DecodeN
namespace Go.Proofs.YtonihjijienigaaDoor
open Go.RowKit Go.Shelf
attribute [local go_sem] Oper.semAt_some

/-- The pieces as the program finds them, rune by rune: from (below 0: none is open), whether a run is open, whether a remark is. -/
def mach (s : ByteArray) : Nat → Nat → Int → Bool → Bool → List (Nat × Nat)
  | 0, _, _, _, _ => []
  | f + 1, pos, fr, run, rem =>
    if pos < s.size then
      if (run && goesOnB ((Utf8.decode s pos).1 : Int)) = true then mach s f (pos + (Utf8.decode s pos).2) fr run rem
      else (if 0 ≤ fr then [(fr.toNat, pos)] else []) ++
        mach s f (pos + (Utf8.decode s pos).2)
          (if (!(decide (((Utf8.decode s pos).1 : Int) = 35) || (rem && !decide (((Utf8.decode s pos).1 : Int) = 10))) && !blankB ((Utf8.decode s pos).1 : Int)) = true then pos else -1)
          (!(decide (((Utf8.decode s pos).1 : Int) = 35) || (rem && !decide (((Utf8.decode s pos).1 : Int) = 10))) && beginsB ((Utf8.decode s pos).1 : Int))
          (decide (((Utf8.decode s pos).1 : Int) = 35) || (rem && !decide (((Utf8.decode s pos).1 : Int) = 10)))
    else if 0 ≤ fr then [(fr.toNat, s.size)] else []

def PieceOf (s : ByteArray) (x : Nat × Nat) : Prop := x.1 < x.2 ∧ x.2 ≤ s.size
def Pc (s : ByteArray) : Type := { x : Nat × Nat // PieceOf s x }
def mkP (s : ByteArray) (a b : Nat) (h : PieceOf s (a, b)) : Pc s := ⟨(a, b), h⟩
def Pc.v {s : ByteArray} (x : Pc s) : Nat × Nat := x.1
def encP (s : ByteArray) (x : Pc s) : Array Value := #[.int .i64 (x.v.1 : Int), .string (s.extract x.v.1 x.v.2)]
def KpW (Bs : Nat) (W W' : World) : Prop := (∀ v, W.cell? ⟨Bs, 0, none⟩ = some v → W'.cell? ⟨Bs, 0, none⟩ = some v) ∧ KeepsWalks W W'

theorem grownBy_iterAt (w : World) (k : Nat) (s : ByteArray) (p : Nat) : w.grownBy (w.iterAt k s p) (some k) :=
  ⟨rfl, rfl, rfl, by simp [World.iterAt], fun j _ hj => Lib.iterAt_other w k j s p (fun e => hj (by rw [e]))⟩

theorem decode_pos (s : ByteArray) (p : Nat) : 1 ≤ (Utf8.decode s p).2 := by
  simp only [Utf8.decode]
  repeat' split
  all_goals omega

theorem decode_le (s : ByteArray) (p : Nat) (hp : p < s.size) : p + (Utf8.decode s p).2 ≤ s.size := by
  rw [Lib.decode_at]
  unfold Lib.decodeN
  repeat' split
  all_goals (simp only; omega)

theorem mach_go (s : ByteArray) (f pos : Nat) (fr : Int) (run rem : Bool) (r k : Nat) (hr : (Utf8.decode s pos).1 = r) (hk : (Utf8.decode s pos).2 = k) (hp : pos < s.size) (hg : (run && goesOnB (r : Int)) = true) :
    mach s (f + 1) pos fr run rem = mach s f (pos + k) fr run rem := by
  rw [mach, if_pos hp, hr, hk, if_pos hg]
theorem mach_new (s : ByteArray) (f pos : Nat) (fr : Int) (run rem : Bool) (r k : Nat) (hr : (Utf8.decode s pos).1 = r) (hk : (Utf8.decode s pos).2 = k) (hp : pos < s.size) (hg : (run && goesOnB (r : Int)) = false)
    (b bl e35 e10 : Bool) (hb : beginsB (r : Int) = b) (hbl : blankB (r : Int) = bl) (h35 : decide ((r : Int) = 35) = e35) (h10 : decide ((r : Int) = 10) = e10) :
    mach s (f + 1) pos fr run rem = (if 0 ≤ fr then [(fr.toNat, pos)] else []) ++
      mach s f (pos + k) (if (!(e35 || (rem && !e10)) && !bl) = true then pos else -1) (!(e35 || (rem && !e10)) && b) (e35 || (rem && !e10)) := by
  subst hb hbl h35 h10
  rw [mach, if_pos hp, hr, hk, if_neg (by rw [hg]; decide)]
def machN (s : ByteArray) (f pos k : Nat) (rem b bl e35 e10 : Bool) : List (Nat × Nat) :=
  mach s f (pos + k) (if (!(e35 || (rem && !e10)) && !bl) = true then pos else -1) (!(e35 || (rem && !e10)) && b) (e35 || (rem && !e10))
theorem mach_end (s : ByteArray) (f pos : Nat) (fr : Int) (run rem : Bool) (hp : ¬ pos < s.size) : mach s (f + 1) pos fr run rem = if 0 ≤ fr then [(fr.toNat, s.size)] else [] := by
  rw [mach, if_neg hp]

set_option maxRecDepth 100000 in
set_option maxHeartbeats 4000000 in
theorem pieces1_in (s : ByteArray) (hs : s.size ≤ 70000) (n : Nat) (hn : 3 ≤ n) (l Bs : Nat) (all : List (Nat × Nat)) (hall : mach s (s.size + 1) 0 (-1) false false = all) (J Jx : List (Pc s) → World → Prop)
    (W : World) (hBs : Bs < W.heap.size) (hJ : AbidesFrom W.heap.size J) (_ : AbidesFrom W.heap.size Jx)
    (hY : ∀ pre x W1, J pre W1 → pre.length < all.length → YieldAt Fence.wide (n - 1) Tryd.prog l (encP s x) W1 fun e W' =>
      (e = .returned (.bool true) ∧ J (pre ++ [x]) W' ∧ KpW Bs W1 W') ∨ (e = .returned (.bool false) ∧ Jx (pre ++ [x]) W'))
    (hc : W.cell? ⟨Bs, 0, none⟩ = some (.string s)) (h0 : J [] W) :
    CallsIn Fence.wide n Tryd.prog 28 #[.func (.yield l) #[] #[], .pointer (some ⟨Bs, 0, none⟩)] W fun e W' => (∃ v, e = .returned v) ∧
      ((∃ ys : List (Pc s), ys.map Pc.v = all ∧ J ys W') ∨ (∃ pre : List (Pc s), pre.map Pc.v <+: all ∧ Jx pre W')) := by
  have h1n : 1 ≤ n := by omega
  have tf : ∀ f, Fence.wide.fn f := fun _ => trivial
  have HALL := Lib.hid hall
  clear hall
  refine callsIn_of_wp Tryd.func28 rfl trivial ?_ rfl
  simp only [Tryd.ntmps28, List.size_toArray, List.length_cons, List.length_nil, Nat.reduceAdd, Nat.reduceSub, Array.replicate_succ, Array.replicate_zero, List.push_toArray, List.append_toArray, List.nil_append, List.cons_append]
  gi_wp2
  gi_loopw [3, 4, 5] (fun vf vr vm wr => ∃ (pre : List (Pc s)) (pos f : Nat) (fr : Int) (run rem : Bool), vf = .int .i64 fr ∧ vr = .bool run ∧ vm = .bool rem ∧ Hid (s.size < f + pos ∧ pos ≤ s.size ∧ -1 ≤ fr ∧ fr < pos ∧ fr < s.size) ∧
      Hid (pre.map Pc.v ++ mach s f pos fr run rem = all) ∧ Hid (wr.heap[W.heap.size]? = some (.stringIter s pos)) ∧ Hid (J pre wr) ∧ Hid (wr.cell? ⟨Bs, 0, none⟩ = some (.string s)))
    (fun _ _ _ wr => s.size - wr.iterPos W.heap.size)
  case atStart =>
    refine ⟨[], 0, s.size + 1, -1, false, false, rfl, rfl, rfl, Lib.hid ⟨by omega, by omega, by omega, by omega, by omega⟩, Lib.hid HALL.out, Lib.hid ?_, Lib.hid ?_, Lib.hid ?_⟩
    · exact World.alloc_heap_new W _
    · exact hJ [] W _ none h0 (World.grownBy_alloc W _ none) (fun r e => by cases e)
    · exact (((Below.refl W.heap.size W).alloc (Nat.le_refl _) _).cell (p := ⟨Bs, 0, none⟩) hBs).trans hc
  case round =>
    obtain ⟨pre, pos, f, fr, run, rem, rfl, rfl, rfl, HN, HM, HIT, HJ, HB⟩ := hrel
    have htx : wr.cell? ⟨Bs, 0, none⟩ = some (.string s) := HB.out
    obtain ⟨f, rfl⟩ : ∃ f', f = f' + 1 := ⟨f - 1, by have := HN.out; omega⟩
    by_cases hp : pos < s.size
    · obtain ⟨r, hr⟩ : ∃ r : Nat, (Utf8.decode s pos).1 = r := ⟨_, rfl⟩
      obtain ⟨k, hk⟩ : ∃ k : Nat, (Utf8.decode s pos).2 = k := ⟨_, rfl⟩
      have hk1 : 1 ≤ k := hk ▸ decode_pos s pos
      have hkl : pos + k ≤ s.size := hk ▸ decode_le s pos hp
      have hnx : ∀ ty, (Instr.next (.pointer (some ⟨W.heap.size, 0, none⟩)) true ty).run Tryd.prog wr = .ok (.tuple #[.bool true, .int .i64 pos, .int .i32 r]) (wr.iterAt W.heap.size s (pos + k)) := fun ty => by
        have := Lib.run_next_any_at (P := Tryd.prog) wr W.heap.size s pos ty HIT.out hp
        rw [hr, hk] at this
        exact this
      have hit1 := Lib.iterAt_heap wr W.heap.size s pos (pos + k) HIT.out
      have hj1 : J pre (wr.iterAt W.heap.size s (pos + k)) := hJ pre wr _ (some W.heap.size) HJ.out (grownBy_iterAt _ _ _ _) (fun r e => by cases e; exact ⟨Nat.le_refl _, _, HIT.out, rfl⟩)
      have hb1 : (wr.iterAt W.heap.size s (pos + k)).cell? ⟨Bs, 0, none⟩ = some (.string s) := (World.cell?_of_block (a := ⟨Bs, 0, none⟩) (Lib.iterAt_other wr W.heap.size Bs s (pos + k) (by omega))).trans HB.out
      have hip : wr.iterPos W.heap.size = pos := by simp [World.iterPos, HIT.out]
      obtain ⟨w1, hw1⟩ : ∃ w1, wr.iterAt W.heap.size s (pos + k) = w1 := ⟨_, rfl⟩
      rw [hw1] at hnx hit1 hj1 hb1
      clear hw1
      have ht1 : w1.cell? ⟨Bs, 0, none⟩ = some (.string s) := hb1
      have HIT1 := Lib.hid hit1
      have HJ1 := Lib.hid hj1
      have HB1 := Lib.hid hb1
      have HIP := Lib.hid hip
      have HKL := Lib.hid (⟨hk1, hkl⟩ : 1 ≤ k ∧ pos + k ≤ s.size)
      clear hit1 hj1 hb1 hip hkl hk1
      have HGO := Lib.hid (goesOn_calls (r : Int))
      have HBG := Lib.hid (begins_calls (r : Int))
      have HBL := Lib.hid (isBlank_calls (r : Int))
      obtain ⟨g, hg⟩ : ∃ g, goesOnB (r : Int) = g := ⟨_, rfl⟩
      obtain ⟨b, hb⟩ : ∃ b, beginsB (r : Int) = b := ⟨_, rfl⟩
      obtain ⟨bl, hbl⟩ : ∃ bl, blankB (r : Int) = bl := ⟨_, rfl⟩
      rw [hg] at HGO
      rw [hb] at HBG
      rw [hbl] at HBL
      have HBB := Lib.hid hb
      have HBLL := Lib.hid hbl
      cases hrg : (run && g)
      · have hmn := fun e35 e10 h35 h10 => mach_new s f pos fr run rem r k hr hk hp (by rw [hg]; exact hrg) b bl e35 e10 hb hbl h35 h10
        have HMN := Lib.hid hmn
        have HRG := Lib.hid hrg
        clear hmn hrg hr hk hg hb hbl
        by_cases hf : 0 ≤ fr
        · have hx : PieceOf s (fr.toNat, pos) := ⟨by have := HN.out; simp only; omega, by simp only; omega⟩
          have hm2 : ∀ e35 e10, decide ((r : Int) = 35) = e35 → decide ((r : Int) = 10) = e10 → (pre ++ [mkP s fr.toNat pos hx]).map Pc.v ++ machN s f pos k rem b bl e35 e10 = all := fun e35 e10 h35 h10 => by
            have h := HM.out
            rw [HMN.out e35 e10 h35 h10, if_pos hf, ← List.append_assoc] at h
            rw [← h, List.map_append]
            rfl
          have HM2 := Lib.hid hm2
          have hlen : pre.length < all.length := by rw [← hm2 _ _ rfl rfl]; simp
          obtain ⟨fn, tmps, assign, body, hy, hR⟩ := hY pre (mkP s fr.toNat pos hx) w1 HJ1.out hlen
          have hfr : ((fr.toNat : Nat) : Int) = fr := by omega
          clear hlen hm2
          simp only [encP, Pc.v, mkP] at hy
          rw [hfr] at hy
          have hfr' : fr ≤ pos := by have := HN.out; omega
          have hps : pos ≤ s.size := by omega
          rcases (show (r : Int) = 35 ∨ (r : Int) = 10 ∨ ((r : Int) ≠ 35 ∧ (r : Int) ≠ 10) by omega) with h35 | h10 | ⟨h35, h10⟩
          · have q35 : decide ((r : Int) = 35) = true := decide_eq_true (by omega)
            have q10 : decide ((r : Int) = 10) = false := decide_eq_false (by omega)
            have n35 : ((r : Int) == 35) = true := q35
            have n10 : ((r : Int) == 10) = false := q10
            have m10 : ((r : Int) != 10) = true := by show (!((r : Int) == 10)) = true; rw [n10]; rfl
            have HM3 := Lib.hid (HM2.out _ _ q35 q10)
            have H35 := Lib.hid h35
            clear q35 q10 h35
            cases run
            · cases rem
              all_goals
                gi_wp2_with (first | ((try with_reducible refine ⟨tf _, ?_⟩); gi_at_call 29; refine (callsIn_wide.2 (HGO.out _)).mono ?_; rintro e w' ⟨rfl, rfl⟩) | ((try with_reducible refine ⟨tf _, ?_⟩); gi_at_call 30; refine (callsIn_wide.2 (HBG.out _)).mono ?_; rintro e w' ⟨rfl, rfl⟩) | ((try with_reducible refine ⟨tf _, ?_⟩); gi_at_call 31; refine (callsIn_wide.2 (HBL.out _)).mono ?_; rintro e w' ⟨rfl, rfl⟩))
                (repeat (first | (with_reducible refine ⟨fun f _ => tf f, ?_⟩; gi_wp2_with (first | ((try with_reducible refine ⟨tf _, ?_⟩); gi_at_call 29; refine (callsIn_wide.2 (HGO.out _)).mono ?_; rintro e w' ⟨rfl, rfl⟩) | ((try with_reducible refine ⟨tf _, ?_⟩); gi_at_call 30; refine (callsIn_wide.2 (HBG.out _)).mono ?_; rintro e w' ⟨rfl, rfl⟩) | ((try with_reducible refine ⟨tf _, ?_⟩); gi_at_call 31; refine (callsIn_wide.2 (HBL.out _)).mono ?_; rintro e w' ⟨rfl, rfl⟩))) | (with_reducible refine ⟨tf _, ?_⟩; gi_wp2_with (first | ((try with_reducible refine ⟨tf _, ?_⟩); gi_at_call 29; refine (callsIn_wide.2 (HGO.out _)).mono ?_; rintro e w' ⟨rfl, rfl⟩) | ((try with_reducible refine ⟨tf _, ?_⟩); gi_at_call 30; refine (callsIn_wide.2 (HBG.out _)).mono ?_; rintro e w' ⟨rfl, rfl⟩) | ((try with_reducible refine ⟨tf _, ?_⟩); gi_at_call 31; refine (callsIn_wide.2 (HBL.out _)).mono ?_; rintro e w' ⟨rfl, rfl⟩)))))
                refine hR.mono ?_
                rintro e W3 (⟨rfl, hJ3, hk3⟩ | ⟨rfl, hJx3⟩)
                · have HIT3 := Lib.hid (hk3.2.same _ _ HIT1.out rfl)
                  have HB3 := Lib.hid (hk3.1 _ HB1.out)
                  have HJ3 := Lib.hid hJ3
                  clear hJ3 hk3
                  gi_wp2_with (first | ((try with_reducible refine ⟨tf _, ?_⟩); gi_at_call 29; refine (callsIn_wide.2 (HGO.out _)).mono ?_; rintro e w' ⟨rfl, rfl⟩) | ((try with_reducible refine ⟨tf _, ?_⟩); gi_at_call 30; refine (callsIn_wide.2 (HBG.out _)).mono ?_; rintro e w' ⟨rfl, rfl⟩) | ((try with_reducible refine ⟨tf _, ?_⟩); gi_at_call 31; refine (callsIn_wide.2 (HBL.out _)).mono ?_; rintro e w' ⟨rfl, rfl⟩))
                  (repeat (first | (with_reducible refine ⟨fun f _ => tf f, ?_⟩; gi_wp2_with (first | ((try with_reducible refine ⟨tf _, ?_⟩); gi_at_call 29; refine (callsIn_wide.2 (HGO.out _)).mono ?_; rintro e w' ⟨rfl, rfl⟩) | ((try with_reducible refine ⟨tf _, ?_⟩); gi_at_call 30; refine (callsIn_wide.2 (HBG.out _)).mono ?_; rintro e w' ⟨rfl, rfl⟩) | ((try with_reducible refine ⟨tf _, ?_⟩); gi_at_call 31; refine (callsIn_wide.2 (HBL.out _)).mono ?_; rintro e w' ⟨rfl, rfl⟩))) | (with_reducible refine ⟨tf _, ?_⟩; gi_wp2_with (first | ((try with_reducible refine ⟨tf _, ?_⟩); gi_at_call 29; refine (callsIn_wide.2 (HGO.out _)).mono ?_; rintro e w' ⟨rfl, rfl⟩) | ((try with_reducible refine ⟨tf _, ?_⟩); gi_at_call 30; refine (callsIn_wide.2 (HBG.out _)).mono ?_; rintro e w' ⟨rfl, rfl⟩) | ((try with_reducible refine ⟨tf _, ?_⟩); gi_at_call 31; refine (callsIn_wide.2 (HBL.out _)).mono ?_; rintro e w' ⟨rfl, rfl⟩)))))
                  refine ⟨⟨pre ++ [mkP s fr.toNat pos hx], pos + k, f, _, _, _, rfl, rfl, rfl, Lib.hid (by have := HN.out; have := HKL.out; omega), HM3, HIT3, HJ3, HB3⟩, ?_⟩
                  rw [HIP.out]; have := HKL.out; have h := HIT3.out; simp [World.iterPos, h]; omega
                · gi_wp2
                  refine bodyPost_ret (results_none rfl _ _ _) rfl ?_
                  exact ⟨⟨_, rfl⟩, .inr ⟨pre ++ [mkP s fr.toNat pos hx], ⟨_, HM3.out⟩, hJx3⟩⟩
            · obtain rfl : g = false := by simpa using HRG.out
              cases rem
              all_goals
                gi_wp2_with (first | ((try with_reducible refine ⟨tf _, ?_⟩); gi_at_call 29; refine (callsIn_wide.2 (HGO.out _)).mono ?_; rintro e w' ⟨rfl, rfl⟩) | ((try with_reducible refine ⟨tf _, ?_⟩); gi_at_call 30; refine (callsIn_wide.2 (HBG.out _)).mono ?_; rintro e w' ⟨rfl, rfl⟩) | ((try with_reducible refine ⟨tf _, ?_⟩); gi_at_call 31; refine (callsIn_wide.2 (HBL.out _)).mono ?_; rintro e w' ⟨rfl, rfl⟩))
                (repeat (first | (with_reducible refine ⟨fun f _ => tf f, ?_⟩; gi_wp2_with (first | ((try with_reducible refine ⟨tf _, ?_⟩); gi_at_call 29; refine (callsIn_wide.2 (HGO.out _)).mono ?_; rintro e w' ⟨rfl, rfl⟩) | ((try with_reducible refine ⟨tf _, ?_⟩); gi_at_call 30; refine (callsIn_wide.2 (HBG.out _)).mono ?_; rintro e w' ⟨rfl, rfl⟩) | ((try with_reducible refine ⟨tf _, ?_⟩); gi_at_call 31; refine (callsIn_wide.2 (HBL.out _)).mono ?_; rintro e w' ⟨rfl, rfl⟩))) | (with_reducible refine ⟨tf _, ?_⟩; gi_wp2_with (first | ((try with_reducible refine ⟨tf _, ?_⟩); gi_at_call 29; refine (callsIn_wide.2 (HGO.out _)).mono ?_; rintro e w' ⟨rfl, rfl⟩) | ((try with_reducible refine ⟨tf _, ?_⟩); gi_at_call 30; refine (callsIn_wide.2 (HBG.out _)).mono ?_; rintro e w' ⟨rfl, rfl⟩) | ((try with_reducible refine ⟨tf _, ?_⟩); gi_at_call 31; refine (callsIn_wide.2 (HBL.out _)).mono ?_; rintro e w' ⟨rfl, rfl⟩)))))
                refine hR.mono ?_
                rintro e W3 (⟨rfl, hJ3, hk3⟩ | ⟨rfl, hJx3⟩)
                · have HIT3 := Lib.hid (hk3.2.same _ _ HIT1.out rfl)
                  have HB3 := Lib.hid (hk3.1 _ HB1.out)
                  have HJ3 := Lib.hid hJ3
                  clear hJ3 hk3
                  gi_wp2_with (first | ((try with_reducible refine ⟨tf _, ?_⟩); gi_at_call 29; refine (callsIn_wide.2 (HGO.out _)).mono ?_; rintro e w' ⟨rfl, rfl⟩) | ((try with_reducible refine ⟨tf _, ?_⟩); gi_at_call 30; refine (callsIn_wide.2 (HBG.out _)).mono ?_; rintro e w' ⟨rfl, rfl⟩) | ((try with_reducible refine ⟨tf _, ?_⟩); gi_at_call 31; refine (callsIn_wide.2 (HBL.out _)).mono ?_; rintro e w' ⟨rfl, rfl⟩))
                  (repeat (first | (with_reducible refine ⟨fun f _ => tf f, ?_⟩; gi_wp2_with (first | ((try with_reducible refine ⟨tf _, ?_⟩); gi_at_call 29; refine (callsIn_wide.2 (HGO.out _)).mono ?_; rintro e w' ⟨rfl, rfl⟩) | ((try with_reducible refine ⟨tf _, ?_⟩); gi_at_call 30; refine (callsIn_wide.2 (HBG.out _)).mono ?_; rintro e w' ⟨rfl, rfl⟩) | ((try with_reducible refine ⟨tf _, ?_⟩); gi_at_call 31; refine (callsIn_wide.2 (HBL.out _)).mono ?_; rintro e w' ⟨rfl, rfl⟩))) | (with_reducible refine ⟨tf _, ?_⟩; gi_wp2_with (first | ((try with_reducible refine ⟨tf _, ?_⟩); gi_at_call 29; refine (callsIn_wide.2 (HGO.out _)).mono ?_; rintro e w' ⟨rfl, rfl⟩) | ((try with_reducible refine ⟨tf _, ?_⟩); gi_at_call 30; refine (callsIn_wide.2 (HBG.out _)).mono ?_; rintro e w' ⟨rfl, rfl⟩) | ((try with_reducible refine ⟨tf _, ?_⟩); gi_at_call 31; refine (callsIn_wide.2 (HBL.out _)).mono ?_; rintro e w' ⟨rfl, rfl⟩)))))
                  refine ⟨⟨pre ++ [mkP s fr.toNat pos hx], pos + k, f, _, _, _, rfl, rfl, rfl, Lib.hid (by have := HN.out; have := HKL.out; omega), HM3, HIT3, HJ3, HB3⟩, ?_⟩
                  rw [HIP.out]; have := HKL.out; have h := HIT3.out; simp [World.iterPos, h]; omega
                · gi_wp2
                  refine bodyPost_ret (results_none rfl _ _ _) rfl ?_
                  exact ⟨⟨_, rfl⟩, .inr ⟨pre ++ [mkP s fr.toNat pos hx], ⟨_, HM3.out⟩, hJx3⟩⟩
          · have q35 : decide ((r : Int) = 35) = false := decide_eq_false (by omega)
            have q10 : decide ((r : Int) = 10) = true := decide_eq_true (by omega)
            have n35 : ((r : Int) == 35) = false := q35
            have n10 : ((r : Int) == 10) = true := q10
            have m10 : ((r : Int) != 10) = false := by show (!((r : Int) == 10)) = false; rw [n10]; rfl
            have HM3 := Lib.hid (HM2.out _ _ q35 q10)
            obtain rfl : b = false := by rw [← HBB.out, h10]; rfl
            obtain rfl : bl = false := by rw [← HBLL.out, h10]; rfl
            have H10 := Lib.hid h10
            clear q35 q10 h10
            cases run
            · cases rem
              all_goals
                gi_wp2_with (first | ((try with_reducible refine ⟨tf _, ?_⟩); gi_at_call 29; refine (callsIn_wide.2 (HGO.out _)).mono ?_; rintro e w' ⟨rfl, rfl⟩) | ((try with_reducible refine ⟨tf _, ?_⟩); gi_at_call 30; refine (callsIn_wide.2 (HBG.out _)).mono ?_; rintro e w' ⟨rfl, rfl⟩) | ((try with_reducible refine ⟨tf _, ?_⟩); gi_at_call 31; refine (callsIn_wide.2 (HBL.out _)).mono ?_; rintro e w' ⟨rfl, rfl⟩))
                (repeat (first | (with_reducible refine ⟨fun f _ => tf f, ?_⟩; gi_wp2_with (first | ((try with_reducible refine ⟨tf _, ?_⟩); gi_at_call 29; refine (callsIn_wide.2 (HGO.out _)).mono ?_; rintro e w' ⟨rfl, rfl⟩) | ((try with_reducible refine ⟨tf _, ?_⟩); gi_at_call 30; refine (callsIn_wide.2 (HBG.out _)).mono ?_; rintro e w' ⟨rfl, rfl⟩) | ((try with_reducible refine ⟨tf _, ?_⟩); gi_at_call 31; refine (callsIn_wide.2 (HBL.out _)).mono ?_; rintro e w' ⟨rfl, rfl⟩))) | (with_reducible refine ⟨tf _, ?_⟩; gi_wp2_with (first | ((try with_reducible refine ⟨tf _, ?_⟩); gi_at_call 29; refine (callsIn_wide.2 (HGO.out _)).mono ?_; rintro e w' ⟨rfl, rfl⟩) | ((try with_reducible refine ⟨tf _, ?_⟩); gi_at_call 30; refine (callsIn_wide.2 (HBG.out _)).mono ?_; rintro e w' ⟨rfl, rfl⟩) | ((try with_reducible refine ⟨tf _, ?_⟩); gi_at_call 31; refine (callsIn_wide.2 (HBL.out _)).mono ?_; rintro e w' ⟨rfl, rfl⟩)))))
                refine hR.mono ?_
                rintro e W3 (⟨rfl, hJ3, hk3⟩ | ⟨rfl, hJx3⟩)
                · have HIT3 := Lib.hid (hk3.2.same _ _ HIT1.out rfl)
                  have HB3 := Lib.hid (hk3.1 _ HB1.out)
                  have HJ3 := Lib.hid hJ3
                  clear hJ3 hk3
                  gi_wp2_with (first | ((try with_reducible refine ⟨tf _, ?_⟩); gi_at_call 29; refine (callsIn_wide.2 (HGO.out _)).mono ?_; rintro e w' ⟨rfl, rfl⟩) | ((try with_reducible refine ⟨tf _, ?_⟩); gi_at_call 30; refine (callsIn_wide.2 (HBG.out _)).mono ?_; rintro e w' ⟨rfl, rfl⟩) | ((try with_reducible refine ⟨tf _, ?_⟩); gi_at_call 31; refine (callsIn_wide.2 (HBL.out _)).mono ?_; rintro e w' ⟨rfl, rfl⟩))
                  (repeat (first | (with_reducible refine ⟨fun f _ => tf f, ?_⟩; gi_wp2_with (first | ((try with_reducible refine ⟨tf _, ?_⟩); gi_at_call 29; refine (callsIn_wide.2 (HGO.out _)).mono ?_; rintro e w' ⟨rfl, rfl⟩) | ((try with_reducible refine ⟨tf _, ?_⟩); gi_at_call 30; refine (callsIn_wide.2 (HBG.out _)).mono ?_; rintro e w' ⟨rfl, rfl⟩) | ((try with_reducible refine ⟨tf _, ?_⟩); gi_at_call 31; refine (callsIn_wide.2 (HBL.out _)).mono ?_; rintro e w' ⟨rfl, rfl⟩))) | (with_reducible refine ⟨tf _, ?_⟩; gi_wp2_with (first | ((try with_reducible refine ⟨tf _, ?_⟩); gi_at_call 29; refine (callsIn_wide.2 (HGO.out _)).mono ?_; rintro e w' ⟨rfl, rfl⟩) | ((try with_reducible refine ⟨tf _, ?_⟩); gi_at_call 30; refine (callsIn_wide.2 (HBG.out _)).mono ?_; rintro e w' ⟨rfl, rfl⟩) | ((try with_reducible refine ⟨tf _, ?_⟩); gi_at_call 31; refine (callsIn_wide.2 (HBL.out _)).mono ?_; rintro e w' ⟨rfl, rfl⟩)))))
                  refine ⟨⟨pre ++ [mkP s fr.toNat pos hx], pos + k, f, _, _, _, rfl, rfl, rfl, Lib.hid (by have := HN.out; have := HKL.out; omega), HM3, HIT3, HJ3, HB3⟩, ?_⟩
                  rw [HIP.out]; have := HKL.out; have h := HIT3.out; simp [World.iterPos, h]; omega
                · gi_wp2
                  refine bodyPost_ret (results_none rfl _ _ _) rfl ?_
                  exact ⟨⟨_, rfl⟩, .inr ⟨pre ++ [mkP s fr.toNat pos hx], ⟨_, HM3.out⟩, hJx3⟩⟩
            · obtain rfl : g = false := by simpa using HRG.out
              cases rem
              all_goals
                gi_wp2_with (first | ((try with_reducible refine ⟨tf _, ?_⟩); gi_at_call 29; refine (callsIn_wide.2 (HGO.out _)).mono ?_; rintro e w' ⟨rfl, rfl⟩) | ((try with_reducible refine ⟨tf _, ?_⟩); gi_at_call 30; refine (callsIn_wide.2 (HBG.out _)).mono ?_; rintro e w' ⟨rfl, rfl⟩) | ((try with_reducible refine ⟨tf _, ?_⟩); gi_at_call 31; refine (callsIn_wide.2 (HBL.out _)).mono ?_; rintro e w' ⟨rfl, rfl⟩))
                (repeat (first | (with_reducible refine ⟨fun f _ => tf f, ?_⟩; gi_wp2_with (first | ((try with_reducible refine ⟨tf _, ?_⟩); gi_at_call 29; refine (callsIn_wide.2 (HGO.out _)).mono ?_; rintro e w' ⟨rfl, rfl⟩) | ((try with_reducible refine ⟨tf _, ?_⟩); gi_at_call 30; refine (callsIn_wide.2 (HBG.out _)).mono ?_; rintro e w' ⟨rfl, rfl⟩) | ((try with_reducible refine ⟨tf _, ?_⟩); gi_at_call 31; refine (callsIn_wide.2 (HBL.out _)).mono ?_; rintro e w' ⟨rfl, rfl⟩))) | (with_reducible refine ⟨tf _, ?_⟩; gi_wp2_with (first | ((try with_reducible refine ⟨tf _, ?_⟩); gi_at_call 29; refine (callsIn_wide.2 (HGO.out _)).mono ?_; rintro e w' ⟨rfl, rfl⟩) | ((try with_reducible refine ⟨tf _, ?_⟩); gi_at_call 30; refine (callsIn_wide.2 (HBG.out _)).mono ?_; rintro e w' ⟨rfl, rfl⟩) | ((try with_reducible refine ⟨tf _, ?_⟩); gi_at_call 31; refine (callsIn_wide.2 (HBL.out _)).mono ?_; rintro e w' ⟨rfl, rfl⟩)))))
                refine hR.mono ?_
                rintro e W3 (⟨rfl, hJ3, hk3⟩ | ⟨rfl, hJx3⟩)
                · have HIT3 := Lib.hid (hk3.2.same _ _ HIT1.out rfl)
                  have HB3 := Lib.hid (hk3.1 _ HB1.out)
                  have HJ3 := Lib.hid hJ3
                  clear hJ3 hk3
                  gi_wp2_with (first | ((try with_reducible refine ⟨tf _, ?_⟩); gi_at_call 29; refine (callsIn_wide.2 (HGO.out _)).mono ?_; rintro e w' ⟨rfl, rfl⟩) | ((try with_reducible refine ⟨tf _, ?_⟩); gi_at_call 30; refine (callsIn_wide.2 (HBG.out _)).mono ?_; rintro e w' ⟨rfl, rfl⟩) | ((try with_reducible refine ⟨tf _, ?_⟩); gi_at_call 31; refine (callsIn_wide.2 (HBL.out _)).mono ?_; rintro e w' ⟨rfl, rfl⟩))
                  (repeat (first | (with_reducible refine ⟨fun f _ => tf f, ?_⟩; gi_wp2_with (first | ((try with_reducible refine ⟨tf _, ?_⟩); gi_at_call 29; refine (callsIn_wide.2 (HGO.out _)).mono ?_; rintro e w' ⟨rfl, rfl⟩) | ((try with_reducible refine ⟨tf _, ?_⟩); gi_at_call 30; refine (callsIn_wide.2 (HBG.out _)).mono ?_; rintro e w' ⟨rfl, rfl⟩) | ((try with_reducible refine ⟨tf _, ?_⟩); gi_at_call 31; refine (callsIn_wide.2 (HBL.out _)).mono ?_; rintro e w' ⟨rfl, rfl⟩))) | (with_reducible refine ⟨tf _, ?_⟩; gi_wp2_with (first | ((try with_reducible refine ⟨tf _, ?_⟩); gi_at_call 29; refine (callsIn_wide.2 (HGO.out _)).mono ?_; rintro e w' ⟨rfl, rfl⟩) | ((try with_reducible refine ⟨tf _, ?_⟩); gi_at_call 30; refine (callsIn_wide.2 (HBG.out _)).mono ?_; rintro e w' ⟨rfl, rfl⟩) | ((try with_reducible refine ⟨tf _, ?_⟩); gi_at_call 31; refine (callsIn_wide.2 (HBL.out _)).mono ?_; rintro e w' ⟨rfl, rfl⟩)))))
                  refine ⟨⟨pre ++ [mkP s fr.toNat pos hx], pos + k, f, _, _, _, rfl, rfl, rfl, Lib.hid (by have := HN.out; have := HKL.out; omega), HM3, HIT3, HJ3, HB3⟩, ?_⟩
                  rw [HIP.out]; have := HKL.out; have h := HIT3.out; simp [World.iterPos, h]; omega
                · gi_wp2
                  refine bodyPost_ret (results_none rfl _ _ _) rfl ?_
                  exact ⟨⟨_, rfl⟩, .inr ⟨pre ++ [mkP s fr.toNat pos hx], ⟨_, HM3.out⟩, hJx3⟩⟩
          · have q35 : decide ((r : Int) = 35) = false := decide_eq_false (by omega)
            have q10 : decide ((r : Int) = 10) = false := decide_eq_false (by omega)
            have n35 : ((r : Int) == 35) = false := q35
            have n10 : ((r : Int) == 10) = false := q10
            have m10 : ((r : Int) != 10) = true := by show (!((r : Int) == 10)) = true; rw [n10]; rfl
            have HM3 := Lib.hid (HM2.out _ _ q35 q10)
            clear q35 q10 h10 h35
            cases run
            · cases rem
              · cases b
                all_goals
                  cases bl
                  all_goals
                    gi_wp2_with (first | ((try with_reducible refine ⟨tf _, ?_⟩); gi_at_call 29; refine (callsIn_wide.2 (HGO.out _)).mono ?_; rintro e w' ⟨rfl, rfl⟩) | ((try with_reducible refine ⟨tf _, ?_⟩); gi_at_call 30; refine (callsIn_wide.2 (HBG.out _)).mono ?_; rintro e w' ⟨rfl, rfl⟩) | ((try with_reducible refine ⟨tf _, ?_⟩); gi_at_call 31; refine (callsIn_wide.2 (HBL.out _)).mono ?_; rintro e w' ⟨rfl, rfl⟩))
                    (repeat (first | (with_reducible refine ⟨fun f _ => tf f, ?_⟩; gi_wp2_with (first | ((try with_reducible refine ⟨tf _, ?_⟩); gi_at_call 29; refine (callsIn_wide.2 (HGO.out _)).mono ?_; rintro e w' ⟨rfl, rfl⟩) | ((try with_reducible refine ⟨tf _, ?_⟩); gi_at_call 30; refine (callsIn_wide.2 (HBG.out _)).mono ?_; rintro e w' ⟨rfl, rfl⟩) | ((try with_reducible refine ⟨tf _, ?_⟩); gi_at_call 31; refine (callsIn_wide.2 (HBL.out _)).mono ?_; rintro e w' ⟨rfl, rfl⟩))) | (with_reducible refine ⟨tf _, ?_⟩; gi_wp2_with (first | ((try with_reducible refine ⟨tf _, ?_⟩); gi_at_call 29; refine (callsIn_wide.2 (HGO.out _)).mono ?_; rintro e w' ⟨rfl, rfl⟩) | ((try with_reducible refine ⟨tf _, ?_⟩); gi_at_call 30; refine (callsIn_wide.2 (HBG.out _)).mono ?_; rintro e w' ⟨rfl, rfl⟩) | ((try with_reducible refine ⟨tf _, ?_⟩); gi_at_call 31; refine (callsIn_wide.2 (HBL.out _)).mono ?_; rintro e w' ⟨rfl, rfl⟩)))))
                    refine hR.mono ?_
                    rintro e W3 (⟨rfl, hJ3, hk3⟩ | ⟨rfl, hJx3⟩)
                    · have HIT3 := Lib.hid (hk3.2.same _ _ HIT1.out rfl)
                      have HB3 := Lib.hid (hk3.1 _ HB1.out)
                      have HJ3 := Lib.hid hJ3
                      clear hJ3 hk3
                      gi_wp2_with (first | ((try with_reducible refine ⟨tf _, ?_⟩); gi_at_call 29; refine (callsIn_wide.2 (HGO.out _)).mono ?_; rintro e w' ⟨rfl, rfl⟩) | ((try with_reducible refine ⟨tf _, ?_⟩); gi_at_call 30; refine (callsIn_wide.2 (HBG.out _)).mono ?_; rintro e w' ⟨rfl, rfl⟩) | ((try with_reducible refine ⟨tf _, ?_⟩); gi_at_call 31; refine (callsIn_wide.2 (HBL.out _)).mono ?_; rintro e w' ⟨rfl, rfl⟩))
                      (repeat (first | (with_reducible refine ⟨fun f _ => tf f, ?_⟩; gi_wp2_with (first | ((try with_reducible refine ⟨tf _, ?_⟩); gi_at_call 29; refine (callsIn_wide.2 (HGO.out _)).mono ?_; rintro e w' ⟨rfl, rfl⟩) | ((try with_reducible refine ⟨tf _, ?_⟩); gi_at_call 30; refine (callsIn_wide.2 (HBG.out _)).mono ?_; rintro e w' ⟨rfl, rfl⟩) | ((try with_reducible refine ⟨tf _, ?_⟩); gi_at_call 31; refine (callsIn_wide.2 (HBL.out _)).mono ?_; rintro e w' ⟨rfl, rfl⟩))) | (with_reducible refine ⟨tf _, ?_⟩; gi_wp2_with (first | ((try with_reducible refine ⟨tf _, ?_⟩); gi_at_call 29; refine (callsIn_wide.2 (HGO.out _)).mono ?_; rintro e w' ⟨rfl, rfl⟩) | ((try with_reducible refine ⟨tf _, ?_⟩); gi_at_call 30; refine (callsIn_wide.2 (HBG.out _)).mono ?_; rintro e w' ⟨rfl, rfl⟩) | ((try with_reducible refine ⟨tf _, ?_⟩); gi_at_call 31; refine (callsIn_wide.2 (HBL.out _)).mono ?_; rintro e w' ⟨rfl, rfl⟩)))))
                      refine ⟨⟨pre ++ [mkP s fr.toNat pos hx], pos + k, f, _, _, _, rfl, rfl, rfl, Lib.hid (by have := HN.out; have := HKL.out; omega), HM3, HIT3, HJ3, HB3⟩, ?_⟩
                      rw [HIP.out]; have := HKL.out; have h := HIT3.out; simp [World.iterPos, h]; omega
                    · gi_wp2
                      refine bodyPost_ret (results_none rfl _ _ _) rfl ?_
                      exact ⟨⟨_, rfl⟩, .inr ⟨pre ++ [mkP s fr.toNat pos hx], ⟨_, HM3.out⟩, hJx3⟩⟩
              · skip
                gi_wp2_with (first | ((try with_reducible refine ⟨tf _, ?_⟩); gi_at_call 29; refine (callsIn_wide.2 (HGO.out _)).mono ?_; rintro e w' ⟨rfl, rfl⟩) | ((try with_reducible refine ⟨tf _, ?_⟩); gi_at_call 30; refine (callsIn_wide.2 (HBG.out _)).mono ?_; rintro e w' ⟨rfl, rfl⟩) | ((try with_reducible refine ⟨tf _, ?_⟩); gi_at_call 31; refine (callsIn_wide.2 (HBL.out _)).mono ?_; rintro e w' ⟨rfl, rfl⟩))
                (repeat (first | (with_reducible refine ⟨fun f _ => tf f, ?_⟩; gi_wp2_with (first | ((try with_reducible refine ⟨tf _, ?_⟩); gi_at_call 29; refine (callsIn_wide.2 (HGO.out _)).mono ?_; rintro e w' ⟨rfl, rfl⟩) | ((try with_reducible refine ⟨tf _, ?_⟩); gi_at_call 30; refine (callsIn_wide.2 (HBG.out _)).mono ?_; rintro e w' ⟨rfl, rfl⟩) | ((try with_reducible refine ⟨tf _, ?_⟩); gi_at_call 31; refine (callsIn_wide.2 (HBL.out _)).mono ?_; rintro e w' ⟨rfl, rfl⟩))) | (with_reducible refine ⟨tf _, ?_⟩; gi_wp2_with (first | ((try with_reducible refine ⟨tf _, ?_⟩); gi_at_call 29; refine (callsIn_wide.2 (HGO.out _)).mono ?_; rintro e w' ⟨rfl, rfl⟩) | ((try with_reducible refine ⟨tf _, ?_⟩); gi_at_call 30; refine (callsIn_wide.2 (HBG.out _)).mono ?_; rintro e w' ⟨rfl, rfl⟩) | ((try with_reducible refine ⟨tf _, ?_⟩); gi_at_call 31; refine (callsIn_wide.2 (HBL.out _)).mono ?_; rintro e w' ⟨rfl, rfl⟩)))))
                refine hR.mono ?_
                rintro e W3 (⟨rfl, hJ3, hk3⟩ | ⟨rfl, hJx3⟩)
                · have HIT3 := Lib.hid (hk3.2.same _ _ HIT1.out rfl)
                  have HB3 := Lib.hid (hk3.1 _ HB1.out)
                  have HJ3 := Lib.hid hJ3
                  clear hJ3 hk3
                  gi_wp2_with (first | ((try with_reducible refine ⟨tf _, ?_⟩); gi_at_call 29; refine (callsIn_wide.2 (HGO.out _)).mono ?_; rintro e w' ⟨rfl, rfl⟩) | ((try with_reducible refine ⟨tf _, ?_⟩); gi_at_call 30; refine (callsIn_wide.2 (HBG.out _)).mono ?_; rintro e w' ⟨rfl, rfl⟩) | ((try with_reducible refine ⟨tf _, ?_⟩); gi_at_call 31; refine (callsIn_wide.2 (HBL.out _)).mono ?_; rintro e w' ⟨rfl, rfl⟩))
                  (repeat (first | (with_reducible refine ⟨fun f _ => tf f, ?_⟩; gi_wp2_with (first | ((try with_reducible refine ⟨tf _, ?_⟩); gi_at_call 29; refine (callsIn_wide.2 (HGO.out _)).mono ?_; rintro e w' ⟨rfl, rfl⟩) | ((try with_reducible refine ⟨tf _, ?_⟩); gi_at_call 30; refine (callsIn_wide.2 (HBG.out _)).mono ?_; rintro e w' ⟨rfl, rfl⟩) | ((try with_reducible refine ⟨tf _, ?_⟩); gi_at_call 31; refine (callsIn_wide.2 (HBL.out _)).mono ?_; rintro e w' ⟨rfl, rfl⟩))) | (with_reducible refine ⟨tf _, ?_⟩; gi_wp2_with (first | ((try with_reducible refine ⟨tf _, ?_⟩); gi_at_call 29; refine (callsIn_wide.2 (HGO.out _)).mono ?_; rintro e w' ⟨rfl, rfl⟩) | ((try with_reducible refine ⟨tf _, ?_⟩); gi_at_call 30; refine (callsIn_wide.2 (HBG.out _)).mono ?_; rintro e w' ⟨rfl, rfl⟩) | ((try with_reducible refine ⟨tf _, ?_⟩); gi_at_call 31; refine (callsIn_wide.2 (HBL.out _)).mono ?_; rintro e w' ⟨rfl, rfl⟩)))))
                  refine ⟨⟨pre ++ [mkP s fr.toNat pos hx], pos + k, f, _, _, _, rfl, rfl, rfl, Lib.hid (by have := HN.out; have := HKL.out; omega), HM3, HIT3, HJ3, HB3⟩, ?_⟩
                  rw [HIP.out]; have := HKL.out; have h := HIT3.out; simp [World.iterPos, h]; omega
                · gi_wp2
                  refine bodyPost_ret (results_none rfl _ _ _) rfl ?_
                  exact ⟨⟨_, rfl⟩, .inr ⟨pre ++ [mkP s fr.toNat pos hx], ⟨_, HM3.out⟩, hJx3⟩⟩
            · obtain rfl : g = false := by simpa using HRG.out
              cases rem
              · cases b
                all_goals
                  cases bl
                  all_goals
                    gi_wp2_with (first | ((try with_reducible refine ⟨tf _, ?_⟩); gi_at_call 29; refine (callsIn_wide.2 (HGO.out _)).mono ?_; rintro e w' ⟨rfl, rfl⟩) | ((try with_reducible refine ⟨tf _, ?_⟩); gi_at_call 30; refine (callsIn_wide.2 (HBG.out _)).mono ?_; rintro e w' ⟨rfl, rfl⟩) | ((try with_reducible refine ⟨tf _, ?_⟩); gi_at_call 31; refine (callsIn_wide.2 (HBL.out _)).mono ?_; rintro e w' ⟨rfl, rfl⟩))
                    (repeat (first | (with_reducible refine ⟨fun f _ => tf f, ?_⟩; gi_wp2_with (first | ((try with_reducible refine ⟨tf _, ?_⟩); gi_at_call 29; refine (callsIn_wide.2 (HGO.out _)).mono ?_; rintro e w' ⟨rfl, rfl⟩) | ((try with_reducible refine ⟨tf _, ?_⟩); gi_at_call 30; refine (callsIn_wide.2 (HBG.out _)).mono ?_; rintro e w' ⟨rfl, rfl⟩) | ((try with_reducible refine ⟨tf _, ?_⟩); gi_at_call 31; refine (callsIn_wide.2 (HBL.out _)).mono ?_; rintro e w' ⟨rfl, rfl⟩))) | (with_reducible refine ⟨tf _, ?_⟩; gi_wp2_with (first | ((try with_reducible refine ⟨tf _, ?_⟩); gi_at_call 29; refine (callsIn_wide.2 (HGO.out _)).mono ?_; rintro e w' ⟨rfl, rfl⟩) | ((try with_reducible refine ⟨tf _, ?_⟩); gi_at_call 30; refine (callsIn_wide.2 (HBG.out _)).mono ?_; rintro e w' ⟨rfl, rfl⟩) | ((try with_reducible refine ⟨tf _, ?_⟩); gi_at_call 31; refine (callsIn_wide.2 (HBL.out _)).mono ?_; rintro e w' ⟨rfl, rfl⟩)))))
                    refine hR.mono ?_
                    rintro e W3 (⟨rfl, hJ3, hk3⟩ | ⟨rfl, hJx3⟩)
                    · have HIT3 := Lib.hid (hk3.2.same _ _ HIT1.out rfl)
                      have HB3 := Lib.hid (hk3.1 _ HB1.out)
                      have HJ3 := Lib.hid hJ3
                      clear hJ3 hk3
                      gi_wp2_with (first | ((try with_reducible refine ⟨tf _, ?_⟩); gi_at_call 29; refine (callsIn_wide.2 (HGO.out _)).mono ?_; rintro e w' ⟨rfl, rfl⟩) | ((try with_reducible refine ⟨tf _, ?_⟩); gi_at_call 30; refine (callsIn_wide.2 (HBG.out _)).mono ?_; rintro e w' ⟨rfl, rfl⟩) | ((try with_reducible refine ⟨tf _, ?_⟩); gi_at_call 31; refine (callsIn_wide.2 (HBL.out _)).mono ?_; rintro e w' ⟨rfl, rfl⟩))
                      (repeat (first | (with_reducible refine ⟨fun f _ => tf f, ?_⟩; gi_wp2_with (first | ((try with_reducible refine ⟨tf _, ?_⟩); gi_at_call 29; refine (callsIn_wide.2 (HGO.out _)).mono ?_; rintro e w' ⟨rfl, rfl⟩) | ((try with_reducible refine ⟨tf _, ?_⟩); gi_at_call 30; refine (callsIn_wide.2 (HBG.out _)).mono ?_; rintro e w' ⟨rfl, rfl⟩) | ((try with_reducible refine ⟨tf _, ?_⟩); gi_at_call 31; refine (callsIn_wide.2 (HBL.out _)).mono ?_; rintro e w' ⟨rfl, rfl⟩))) | (with_reducible refine ⟨tf _, ?_⟩; gi_wp2_with (first | ((try with_reducible refine ⟨tf _, ?_⟩); gi_at_call 29; refine (callsIn_wide.2 (HGO.out _)).mono ?_; rintro e w' ⟨rfl, rfl⟩) | ((try with_reducible refine ⟨tf _, ?_⟩); gi_at_call 30; refine (callsIn_wide.2 (HBG.out _)).mono ?_; rintro e w' ⟨rfl, rfl⟩) | ((try with_reducible refine ⟨tf _, ?_⟩); gi_at_call 31; refine (callsIn_wide.2 (HBL.out _)).mono ?_; rintro e w' ⟨rfl, rfl⟩)))))
                      refine ⟨⟨pre ++ [mkP s fr.toNat pos hx], pos + k, f, _, _, _, rfl, rfl, rfl, Lib.hid (by have := HN.out; have := HKL.out; omega), HM3, HIT3, HJ3, HB3⟩, ?_⟩
                      rw [HIP.out]; have := HKL.out; have h := HIT3.out; simp [World.iterPos, h]; omega
                    · gi_wp2
                      refine bodyPost_ret (results_none rfl _ _ _) rfl ?_
                      exact ⟨⟨_, rfl⟩, .inr ⟨pre ++ [mkP s fr.toNat pos hx], ⟨_, HM3.out⟩, hJx3⟩⟩
              · skip
                gi_wp2_with (first | ((try with_reducible refine ⟨tf _, ?_⟩); gi_at_call 29; refine (callsIn_wide.2 (HGO.out _)).mono ?_; rintro e w' ⟨rfl, rfl⟩) | ((try with_reducible refine ⟨tf _, ?_⟩); gi_at_call 30; refine (callsIn_wide.2 (HBG.out _)).mono ?_; rintro e w' ⟨rfl, rfl⟩) | ((try with_reducible refine ⟨tf _, ?_⟩); gi_at_call 31; refine (callsIn_wide.2 (HBL.out _)).mono ?_; rintro e w' ⟨rfl, rfl⟩))
                (repeat (first | (with_reducible refine ⟨fun f _ => tf f, ?_⟩; gi_wp2_with (first | ((try with_reducible refine ⟨tf _, ?_⟩); gi_at_call 29; refine (callsIn_wide.2 (HGO.out _)).mono ?_; rintro e w' ⟨rfl, rfl⟩) | ((try with_reducible refine ⟨tf _, ?_⟩); gi_at_call 30; refine (callsIn_wide.2 (HBG.out _)).mono ?_; rintro e w' ⟨rfl, rfl⟩) | ((try with_reducible refine ⟨tf _, ?_⟩); gi_at_call 31; refine (callsIn_wide.2 (HBL.out _)).mono ?_; rintro e w' ⟨rfl, rfl⟩))) | (with_reducible refine ⟨tf _, ?_⟩; gi_wp2_with (first | ((try with_reducible refine ⟨tf _, ?_⟩); gi_at_call 29; refine (callsIn_wide.2 (HGO.out _)).mono ?_; rintro e w' ⟨rfl, rfl⟩) | ((try with_reducible refine ⟨tf _, ?_⟩); gi_at_call 30; refine (callsIn_wide.2 (HBG.out _)).mono ?_; rintro e w' ⟨rfl, rfl⟩) | ((try with_reducible refine ⟨tf _, ?_⟩); gi_at_call 31; refine (callsIn_wide.2 (HBL.out _)).mono ?_; rintro e w' ⟨rfl, rfl⟩)))))
                refine hR.mono ?_
                rintro e W3 (⟨rfl, hJ3, hk3⟩ | ⟨rfl, hJx3⟩)
                · have HIT3 := Lib.hid (hk3.2.same _ _ HIT1.out rfl)
                  have HB3 := Lib.hid (hk3.1 _ HB1.out)
                  have HJ3 := Lib.hid hJ3
                  clear hJ3 hk3
                  gi_wp2_with (first | ((try with_reducible refine ⟨tf _, ?_⟩); gi_at_call 29; refine (callsIn_wide.2 (HGO.out _)).mono ?_; rintro e w' ⟨rfl, rfl⟩) | ((try with_reducible refine ⟨tf _, ?_⟩); gi_at_call 30; refine (callsIn_wide.2 (HBG.out _)).mono ?_; rintro e w' ⟨rfl, rfl⟩) | ((try with_reducible refine ⟨tf _, ?_⟩); gi_at_call 31; refine (callsIn_wide.2 (HBL.out _)).mono ?_; rintro e w' ⟨rfl, rfl⟩))
                  (repeat (first | (with_reducible refine ⟨fun f _ => tf f, ?_⟩; gi_wp2_with (first | ((try with_reducible refine ⟨tf _, ?_⟩); gi_at_call 29; refine (callsIn_wide.2 (HGO.out _)).mono ?_; rintro e w' ⟨rfl, rfl⟩) | ((try with_reducible refine ⟨tf _, ?_⟩); gi_at_call 30; refine (callsIn_wide.2 (HBG.out _)).mono ?_; rintro e w' ⟨rfl, rfl⟩) | ((try with_reducible refine ⟨tf _, ?_⟩); gi_at_call 31; refine (callsIn_wide.2 (HBL.out _)).mono ?_; rintro e w' ⟨rfl, rfl⟩))) | (with_reducible refine ⟨tf _, ?_⟩; gi_wp2_with (first | ((try with_reducible refine ⟨tf _, ?_⟩); gi_at_call 29; refine (callsIn_wide.2 (HGO.out _)).mono ?_; rintro e w' ⟨rfl, rfl⟩) | ((try with_reducible refine ⟨tf _, ?_⟩); gi_at_call 30; refine (callsIn_wide.2 (HBG.out _)).mono ?_; rintro e w' ⟨rfl, rfl⟩) | ((try with_reducible refine ⟨tf _, ?_⟩); gi_at_call 31; refine (callsIn_wide.2 (HBL.out _)).mono ?_; rintro e w' ⟨rfl, rfl⟩)))))
                  refine ⟨⟨pre ++ [mkP s fr.toNat pos hx], pos + k, f, _, _, _, rfl, rfl, rfl, Lib.hid (by have := HN.out; have := HKL.out; omega), HM3, HIT3, HJ3, HB3⟩, ?_⟩
                  rw [HIP.out]; have := HKL.out; have h := HIT3.out; simp [World.iterPos, h]; omega
                · gi_wp2
                  refine bodyPost_ret (results_none rfl _ _ _) rfl ?_
                  exact ⟨⟨_, rfl⟩, .inr ⟨pre ++ [mkP s fr.toNat pos hx], ⟨_, HM3.out⟩, hJx3⟩⟩
        · have hm2 : ∀ e35 e10, decide ((r : Int) = 35) = e35 → decide ((r : Int) = 10) = e10 → pre.map Pc.v ++ machN s f pos k rem b bl e35 e10 = all := fun e35 e10 h35 h10 => by
            have h := HM.out
            rw [HMN.out e35 e10 h35 h10, if_neg hf, List.nil_append] at h
            exact h
          have HM2 := Lib.hid hm2
          clear hm2
          rcases (show (r : Int) = 35 ∨ (r : Int) = 10 ∨ ((r : Int) ≠ 35 ∧ (r : Int) ≠ 10) by omega) with h35 | h10 | ⟨h35, h10⟩
          · have q35 : decide ((r : Int) = 35) = true := decide_eq_true (by omega)
            have q10 : decide ((r : Int) = 10) = false := decide_eq_false (by omega)
            have n35 : ((r : Int) == 35) = true := q35
            have n10 : ((r : Int) == 10) = false := q10
            have m10 : ((r : Int) != 10) = true := by show (!((r : Int) == 10)) = true; rw [n10]; rfl
            have HM3 := Lib.hid (HM2.out _ _ q35 q10)
            have H35 := Lib.hid h35
            clear q35 q10 h35
            cases run
            · cases rem
              all_goals
                gi_wp2_with (first | ((try with_reducible refine ⟨tf _, ?_⟩); gi_at_call 29; refine (callsIn_wide.2 (HGO.out _)).mono ?_; rintro e w' ⟨rfl, rfl⟩) | ((try with_reducible refine ⟨tf _, ?_⟩); gi_at_call 30; refine (callsIn_wide.2 (HBG.out _)).mono ?_; rintro e w' ⟨rfl, rfl⟩) | ((try with_reducible refine ⟨tf _, ?_⟩); gi_at_call 31; refine (callsIn_wide.2 (HBL.out _)).mono ?_; rintro e w' ⟨rfl, rfl⟩))
                (repeat (first | (with_reducible refine ⟨fun f _ => tf f, ?_⟩; gi_wp2_with (first | ((try with_reducible refine ⟨tf _, ?_⟩); gi_at_call 29; refine (callsIn_wide.2 (HGO.out _)).mono ?_; rintro e w' ⟨rfl, rfl⟩) | ((try with_reducible refine ⟨tf _, ?_⟩); gi_at_call 30; refine (callsIn_wide.2 (HBG.out _)).mono ?_; rintro e w' ⟨rfl, rfl⟩) | ((try with_reducible refine ⟨tf _, ?_⟩); gi_at_call 31; refine (callsIn_wide.2 (HBL.out _)).mono ?_; rintro e w' ⟨rfl, rfl⟩))) | (with_reducible refine ⟨tf _, ?_⟩; gi_wp2_with (first | ((try with_reducible refine ⟨tf _, ?_⟩); gi_at_call 29; refine (callsIn_wide.2 (HGO.out _)).mono ?_; rintro e w' ⟨rfl, rfl⟩) | ((try with_reducible refine ⟨tf _, ?_⟩); gi_at_call 30; refine (callsIn_wide.2 (HBG.out _)).mono ?_; rintro e w' ⟨rfl, rfl⟩) | ((try with_reducible refine ⟨tf _, ?_⟩); gi_at_call 31; refine (callsIn_wide.2 (HBL.out _)).mono ?_; rintro e w' ⟨rfl, rfl⟩)))))
                refine ⟨⟨pre, pos + k, f, _, _, _, rfl, rfl, rfl, Lib.hid (by have := HN.out; have := HKL.out; omega), HM3, HIT1, HJ1, HB1⟩, ?_⟩
                rw [HIP.out]; have := HKL.out; have h := HIT1.out; simp [World.iterPos, h]; omega
            · obtain rfl : g = false := by simpa using HRG.out
              cases rem
              all_goals
                gi_wp2_with (first | ((try with_reducible refine ⟨tf _, ?_⟩); gi_at_call 29; refine (callsIn_wide.2 (HGO.out _)).mono ?_; rintro e w' ⟨rfl, rfl⟩) | ((try with_reducible refine ⟨tf _, ?_⟩); gi_at_call 30; refine (callsIn_wide.2 (HBG.out _)).mono ?_; rintro e w' ⟨rfl, rfl⟩) | ((try with_reducible refine ⟨tf _, ?_⟩); gi_at_call 31; refine (callsIn_wide.2 (HBL.out _)).mono ?_; rintro e w' ⟨rfl, rfl⟩))
                (repeat (first | (with_reducible refine ⟨fun f _ => tf f, ?_⟩; gi_wp2_with (first | ((try with_reducible refine ⟨tf _, ?_⟩); gi_at_call 29; refine (callsIn_wide.2 (HGO.out _)).mono ?_; rintro e w' ⟨rfl, rfl⟩) | ((try with_reducible refine ⟨tf _, ?_⟩); gi_at_call 30; refine (callsIn_wide.2 (HBG.out _)).mono ?_; rintro e w' ⟨rfl, rfl⟩) | ((try with_reducible refine ⟨tf _, ?_⟩); gi_at_call 31; refine (callsIn_wide.2 (HBL.out _)).mono ?_; rintro e w' ⟨rfl, rfl⟩))) | (with_reducible refine ⟨tf _, ?_⟩; gi_wp2_with (first | ((try with_reducible refine ⟨tf _, ?_⟩); gi_at_call 29; refine (callsIn_wide.2 (HGO.out _)).mono ?_; rintro e w' ⟨rfl, rfl⟩) | ((try with_reducible refine ⟨tf _, ?_⟩); gi_at_call 30; refine (callsIn_wide.2 (HBG.out _)).mono ?_; rintro e w' ⟨rfl, rfl⟩) | ((try with_reducible refine ⟨tf _, ?_⟩); gi_at_call 31; refine (callsIn_wide.2 (HBL.out _)).mono ?_; rintro e w' ⟨rfl, rfl⟩)))))
                refine ⟨⟨pre, pos + k, f, _, _, _, rfl, rfl, rfl, Lib.hid (by have := HN.out; have := HKL.out; omega), HM3, HIT1, HJ1, HB1⟩, ?_⟩
                rw [HIP.out]; have := HKL.out; have h := HIT1.out; simp [World.iterPos, h]; omega
          · have q35 : decide ((r : Int) = 35) = false := decide_eq_false (by omega)
            have q10 : decide ((r : Int) = 10) = true := decide_eq_true (by omega)
            have n35 : ((r : Int) == 35) = false := q35
            have n10 : ((r : Int) == 10) = true := q10
            have m10 : ((r : Int) != 10) = false := by show (!((r : Int) == 10)) = false; rw [n10]; rfl
            have HM3 := Lib.hid (HM2.out _ _ q35 q10)
            obtain rfl : b = false := by rw [← HBB.out, h10]; rfl
            obtain rfl : bl = false := by rw [← HBLL.out, h10]; rfl
            have H10 := Lib.hid h10
            clear q35 q10 h10
            cases run
            · cases rem
              all_goals
                gi_wp2_with (first | ((try with_reducible refine ⟨tf _, ?_⟩); gi_at_call 29; refine (callsIn_wide.2 (HGO.out _)).mono ?_; rintro e w' ⟨rfl, rfl⟩) | ((try with_reducible refine ⟨tf _, ?_⟩); gi_at_call 30; refine (callsIn_wide.2 (HBG.out _)).mono ?_; rintro e w' ⟨rfl, rfl⟩) | ((try with_reducible refine ⟨tf _, ?_⟩); gi_at_call 31; refine (callsIn_wide.2 (HBL.out _)).mono ?_; rintro e w' ⟨rfl, rfl⟩))
                (repeat (first | (with_reducible refine ⟨fun f _ => tf f, ?_⟩; gi_wp2_with (first | ((try with_reducible refine ⟨tf _, ?_⟩); gi_at_call 29; refine (callsIn_wide.2 (HGO.out _)).mono ?_; rintro e w' ⟨rfl, rfl⟩) | ((try with_reducible refine ⟨tf _, ?_⟩); gi_at_call 30; refine (callsIn_wide.2 (HBG.out _)).mono ?_; rintro e w' ⟨rfl, rfl⟩) | ((try with_reducible refine ⟨tf _, ?_⟩); gi_at_call 31; refine (callsIn_wide.2 (HBL.out _)).mono ?_; rintro e w' ⟨rfl, rfl⟩))) | (with_reducible refine ⟨tf _, ?_⟩; gi_wp2_with (first | ((try with_reducible refine ⟨tf _, ?_⟩); gi_at_call 29; refine (callsIn_wide.2 (HGO.out _)).mono ?_; rintro e w' ⟨rfl, rfl⟩) | ((try with_reducible refine ⟨tf _, ?_⟩); gi_at_call 30; refine (callsIn_wide.2 (HBG.out _)).mono ?_; rintro e w' ⟨rfl, rfl⟩) | ((try with_reducible refine ⟨tf _, ?_⟩); gi_at_call 31; refine (callsIn_wide.2 (HBL.out _)).mono ?_; rintro e w' ⟨rfl, rfl⟩)))))
                refine ⟨⟨pre, pos + k, f, _, _, _, rfl, rfl, rfl, Lib.hid (by have := HN.out; have := HKL.out; omega), HM3, HIT1, HJ1, HB1⟩, ?_⟩
                rw [HIP.out]; have := HKL.out; have h := HIT1.out; simp [World.iterPos, h]; omega
            · obtain rfl : g = false := by simpa using HRG.out
              cases rem
              all_goals
                gi_wp2_with (first | ((try with_reducible refine ⟨tf _, ?_⟩); gi_at_call 29; refine (callsIn_wide.2 (HGO.out _)).mono ?_; rintro e w' ⟨rfl, rfl⟩) | ((try with_reducible refine ⟨tf _, ?_⟩); gi_at_call 30; refine (callsIn_wide.2 (HBG.out _)).mono ?_; rintro e w' ⟨rfl, rfl⟩) | ((try with_reducible refine ⟨tf _, ?_⟩); gi_at_call 31; refine (callsIn_wide.2 (HBL.out _)).mono ?_; rintro e w' ⟨rfl, rfl⟩))
                (repeat (first | (with_reducible refine ⟨fun f _ => tf f, ?_⟩; gi_wp2_with (first | ((try with_reducible refine ⟨tf _, ?_⟩); gi_at_call 29; refine (callsIn_wide.2 (HGO.out _)).mono ?_; rintro e w' ⟨rfl, rfl⟩) | ((try with_reducible refine ⟨tf _, ?_⟩); gi_at_call 30; refine (callsIn_wide.2 (HBG.out _)).mono ?_; rintro e w' ⟨rfl, rfl⟩) | ((try with_reducible refine ⟨tf _, ?_⟩); gi_at_call 31; refine (callsIn_wide.2 (HBL.out _)).mono ?_; rintro e w' ⟨rfl, rfl⟩))) | (with_reducible refine ⟨tf _, ?_⟩; gi_wp2_with (first | ((try with_reducible refine ⟨tf _, ?_⟩); gi_at_call 29; refine (callsIn_wide.2 (HGO.out _)).mono ?_; rintro e w' ⟨rfl, rfl⟩) | ((try with_reducible refine ⟨tf _, ?_⟩); gi_at_call 30; refine (callsIn_wide.2 (HBG.out _)).mono ?_; rintro e w' ⟨rfl, rfl⟩) | ((try with_reducible refine ⟨tf _, ?_⟩); gi_at_call 31; refine (callsIn_wide.2 (HBL.out _)).mono ?_; rintro e w' ⟨rfl, rfl⟩)))))
                refine ⟨⟨pre, pos + k, f, _, _, _, rfl, rfl, rfl, Lib.hid (by have := HN.out; have := HKL.out; omega), HM3, HIT1, HJ1, HB1⟩, ?_⟩
                rw [HIP.out]; have := HKL.out; have h := HIT1.out; simp [World.iterPos, h]; omega
          · have q35 : decide ((r : Int) = 35) = false := decide_eq_false (by omega)
            have q10 : decide ((r : Int) = 10) = false := decide_eq_false (by omega)
            have n35 : ((r : Int) == 35) = false := q35
            have n10 : ((r : Int) == 10) = false := q10
            have m10 : ((r : Int) != 10) = true := by show (!((r : Int) == 10)) = true; rw [n10]; rfl
            have HM3 := Lib.hid (HM2.out _ _ q35 q10)
            clear q35 q10 h10 h35
            cases run
            · cases rem
              · cases b
                all_goals
                  cases bl
                  all_goals
                    gi_wp2_with (first | ((try with_reducible refine ⟨tf _, ?_⟩); gi_at_call 29; refine (callsIn_wide.2 (HGO.out _)).mono ?_; rintro e w' ⟨rfl, rfl⟩) | ((try with_reducible refine ⟨tf _, ?_⟩); gi_at_call 30; refine (callsIn_wide.2 (HBG.out _)).mono ?_; rintro e w' ⟨rfl, rfl⟩) | ((try with_reducible refine ⟨tf _, ?_⟩); gi_at_call 31; refine (callsIn_wide.2 (HBL.out _)).mono ?_; rintro e w' ⟨rfl, rfl⟩))
                    (repeat (first | (with_reducible refine ⟨fun f _ => tf f, ?_⟩; gi_wp2_with (first | ((try with_reducible refine ⟨tf _, ?_⟩); gi_at_call 29; refine (callsIn_wide.2 (HGO.out _)).mono ?_; rintro e w' ⟨rfl, rfl⟩) | ((try with_reducible refine ⟨tf _, ?_⟩); gi_at_call 30; refine (callsIn_wide.2 (HBG.out _)).mono ?_; rintro e w' ⟨rfl, rfl⟩) | ((try with_reducible refine ⟨tf _, ?_⟩); gi_at_call 31; refine (callsIn_wide.2 (HBL.out _)).mono ?_; rintro e w' ⟨rfl, rfl⟩))) | (with_reducible refine ⟨tf _, ?_⟩; gi_wp2_with (first | ((try with_reducible refine ⟨tf _, ?_⟩); gi_at_call 29; refine (callsIn_wide.2 (HGO.out _)).mono ?_; rintro e w' ⟨rfl, rfl⟩) | ((try with_reducible refine ⟨tf _, ?_⟩); gi_at_call 30; refine (callsIn_wide.2 (HBG.out _)).mono ?_; rintro e w' ⟨rfl, rfl⟩) | ((try with_reducible refine ⟨tf _, ?_⟩); gi_at_call 31; refine (callsIn_wide.2 (HBL.out _)).mono ?_; rintro e w' ⟨rfl, rfl⟩)))))
                    refine ⟨⟨pre, pos + k, f, _, _, _, rfl, rfl, rfl, Lib.hid (by have := HN.out; have := HKL.out; omega), HM3, HIT1, HJ1, HB1⟩, ?_⟩
                    rw [HIP.out]; have := HKL.out; have h := HIT1.out; simp [World.iterPos, h]; omega
              · skip
                gi_wp2_with (first | ((try with_reducible refine ⟨tf _, ?_⟩); gi_at_call 29; refine (callsIn_wide.2 (HGO.out _)).mono ?_; rintro e w' ⟨rfl, rfl⟩) | ((try with_reducible refine ⟨tf _, ?_⟩); gi_at_call 30; refine (callsIn_wide.2 (HBG.out _)).mono ?_; rintro e w' ⟨rfl, rfl⟩) | ((try with_reducible refine ⟨tf _, ?_⟩); gi_at_call 31; refine (callsIn_wide.2 (HBL.out _)).mono ?_; rintro e w' ⟨rfl, rfl⟩))
                (repeat (first | (with_reducible refine ⟨fun f _ => tf f, ?_⟩; gi_wp2_with (first | ((try with_reducible refine ⟨tf _, ?_⟩); gi_at_call 29; refine (callsIn_wide.2 (HGO.out _)).mono ?_; rintro e w' ⟨rfl, rfl⟩) | ((try with_reducible refine ⟨tf _, ?_⟩); gi_at_call 30; refine (callsIn_wide.2 (HBG.out _)).mono ?_; rintro e w' ⟨rfl, rfl⟩) | ((try with_reducible refine ⟨tf _, ?_⟩); gi_at_call 31; refine (callsIn_wide.2 (HBL.out _)).mono ?_; rintro e w' ⟨rfl, rfl⟩))) | (with_reducible refine ⟨tf _, ?_⟩; gi_wp2_with (first | ((try with_reducible refine ⟨tf _, ?_⟩); gi_at_call 29; refine (callsIn_wide.2 (HGO.out _)).mono ?_; rintro e w' ⟨rfl, rfl⟩) | ((try with_reducible refine ⟨tf _, ?_⟩); gi_at_call 30; refine (callsIn_wide.2 (HBG.out _)).mono ?_; rintro e w' ⟨rfl, rfl⟩) | ((try with_reducible refine ⟨tf _, ?_⟩); gi_at_call 31; refine (callsIn_wide.2 (HBL.out _)).mono ?_; rintro e w' ⟨rfl, rfl⟩)))))
                refine ⟨⟨pre, pos + k, f, _, _, _, rfl, rfl, rfl, Lib.hid (by have := HN.out; have := HKL.out; omega), HM3, HIT1, HJ1, HB1⟩, ?_⟩
                rw [HIP.out]; have := HKL.out; have h := HIT1.out; simp [World.iterPos, h]; omega
            · obtain rfl : g = false := by simpa using HRG.out
              cases rem
              · cases b
                all_goals
                  cases bl
                  all_goals
                    gi_wp2_with (first | ((try with_reducible refine ⟨tf _, ?_⟩); gi_at_call 29; refine (callsIn_wide.2 (HGO.out _)).mono ?_; rintro e w' ⟨rfl, rfl⟩) | ((try with_reducible refine ⟨tf _, ?_⟩); gi_at_call 30; refine (callsIn_wide.2 (HBG.out _)).mono ?_; rintro e w' ⟨rfl, rfl⟩) | ((try with_reducible refine ⟨tf _, ?_⟩); gi_at_call 31; refine (callsIn_wide.2 (HBL.out _)).mono ?_; rintro e w' ⟨rfl, rfl⟩))
                    (repeat (first | (with_reducible refine ⟨fun f _ => tf f, ?_⟩; gi_wp2_with (first | ((try with_reducible refine ⟨tf _, ?_⟩); gi_at_call 29; refine (callsIn_wide.2 (HGO.out _)).mono ?_; rintro e w' ⟨rfl, rfl⟩) | ((try with_reducible refine ⟨tf _, ?_⟩); gi_at_call 30; refine (callsIn_wide.2 (HBG.out _)).mono ?_; rintro e w' ⟨rfl, rfl⟩) | ((try with_reducible refine ⟨tf _, ?_⟩); gi_at_call 31; refine (callsIn_wide.2 (HBL.out _)).mono ?_; rintro e w' ⟨rfl, rfl⟩))) | (with_reducible refine ⟨tf _, ?_⟩; gi_wp2_with (first | ((try with_reducible refine ⟨tf _, ?_⟩); gi_at_call 29; refine (callsIn_wide.2 (HGO.out _)).mono ?_; rintro e w' ⟨rfl, rfl⟩) | ((try with_reducible refine ⟨tf _, ?_⟩); gi_at_call 30; refine (callsIn_wide.2 (HBG.out _)).mono ?_; rintro e w' ⟨rfl, rfl⟩) | ((try with_reducible refine ⟨tf _, ?_⟩); gi_at_call 31; refine (callsIn_wide.2 (HBL.out _)).mono ?_; rintro e w' ⟨rfl, rfl⟩)))))
                    refine ⟨⟨pre, pos + k, f, _, _, _, rfl, rfl, rfl, Lib.hid (by have := HN.out; have := HKL.out; omega), HM3, HIT1, HJ1, HB1⟩, ?_⟩
                    rw [HIP.out]; have := HKL.out; have h := HIT1.out; simp [World.iterPos, h]; omega
              · skip
                gi_wp2_with (first | ((try with_reducible refine ⟨tf _, ?_⟩); gi_at_call 29; refine (callsIn_wide.2 (HGO.out _)).mono ?_; rintro e w' ⟨rfl, rfl⟩) | ((try with_reducible refine ⟨tf _, ?_⟩); gi_at_call 30; refine (callsIn_wide.2 (HBG.out _)).mono ?_; rintro e w' ⟨rfl, rfl⟩) | ((try with_reducible refine ⟨tf _, ?_⟩); gi_at_call 31; refine (callsIn_wide.2 (HBL.out _)).mono ?_; rintro e w' ⟨rfl, rfl⟩))
                (repeat (first | (with_reducible refine ⟨fun f _ => tf f, ?_⟩; gi_wp2_with (first | ((try with_reducible refine ⟨tf _, ?_⟩); gi_at_call 29; refine (callsIn_wide.2 (HGO.out _)).mono ?_; rintro e w' ⟨rfl, rfl⟩) | ((try with_reducible refine ⟨tf _, ?_⟩); gi_at_call 30; refine (callsIn_wide.2 (HBG.out _)).mono ?_; rintro e w' ⟨rfl, rfl⟩) | ((try with_reducible refine ⟨tf _, ?_⟩); gi_at_call 31; refine (callsIn_wide.2 (HBL.out _)).mono ?_; rintro e w' ⟨rfl, rfl⟩))) | (with_reducible refine ⟨tf _, ?_⟩; gi_wp2_with (first | ((try with_reducible refine ⟨tf _, ?_⟩); gi_at_call 29; refine (callsIn_wide.2 (HGO.out _)).mono ?_; rintro e w' ⟨rfl, rfl⟩) | ((try with_reducible refine ⟨tf _, ?_⟩); gi_at_call 30; refine (callsIn_wide.2 (HBG.out _)).mono ?_; rintro e w' ⟨rfl, rfl⟩) | ((try with_reducible refine ⟨tf _, ?_⟩); gi_at_call 31; refine (callsIn_wide.2 (HBL.out _)).mono ?_; rintro e w' ⟨rfl, rfl⟩)))))
                refine ⟨⟨pre, pos + k, f, _, _, _, rfl, rfl, rfl, Lib.hid (by have := HN.out; have := HKL.out; omega), HM3, HIT1, HJ1, HB1⟩, ?_⟩
                rw [HIP.out]; have := HKL.out; have h := HIT1.out; simp [World.iterPos, h]; omega
      · have hm := HM.out
        rw [mach_go s f pos fr run rem r k hr hk hp (by rw [hg]; exact hrg)] at hm
        have HM1 := Lib.hid hm
        obtain ⟨rfl, rfl⟩ : run = true ∧ g = true := by simpa using hrg
        clear hm hrg hr hk hg hb hbl
        gi_wp2_with ((try with_reducible refine ⟨tf _, ?_⟩); gi_at_call 29; refine (callsIn_wide.2 (HGO.out _)).mono ?_; rintro e w' ⟨rfl, rfl⟩)
        refine ⟨⟨pre, pos + k, f, fr, true, rem, rfl, rfl, rfl, Lib.hid (by have := HN.out; have := HKL.out; omega), HM1, HIT1, HJ1, HB1⟩, ?_⟩
        rw [HIP.out]; have := HKL.out; have h := HIT1.out; simp [World.iterPos, h]; omega
    · have hnx : ∀ ty, (Instr.next (.pointer (some ⟨W.heap.size, 0, none⟩)) true ty).run Tryd.prog wr = .ok (.tuple #[.bool false]) wr := fun ty => Lib.run_next_end_at (P := Tryd.prog) wr W.heap.size s pos ty HIT.out hp
      have hm := HM.out
      rw [mach_end s f pos fr run rem hp] at hm
      by_cases hf : 0 ≤ fr
      · rw [if_pos hf] at hm
        have HM1 := Lib.hid hm
        have hx : PieceOf s (fr.toNat, s.size) := ⟨by have := HN.out; simp only; omega, Nat.le_refl _⟩
        have hlen : pre.length < all.length := by rw [← hm]; simp
        obtain ⟨fn, tmps, assign, body, hy, hR⟩ := hY pre (mkP s fr.toNat s.size hx) wr HJ.out hlen
        have hfr : ((fr.toNat : Nat) : Int) = fr := by omega
        clear hm hlen
        simp only [encP, Pc.v, mkP] at hy
        rw [hfr] at hy
        have hfr' : fr ≤ s.size := by have := HN.out; omega
        gi_wp2
        refine hR.mono ?_
        rintro e W3 (⟨rfl, hJ3, hk3⟩ | ⟨rfl, hJx3⟩)
        · gi_wp2
          go_end0
          exact ⟨⟨_, rfl⟩, .inl ⟨pre ++ [mkP s fr.toNat s.size hx], by rw [← HM1.out, List.map_append]; rfl, hJ3⟩⟩
        · gi_wp2
          go_end0
          exact ⟨⟨_, rfl⟩, .inr ⟨pre ++ [mkP s fr.toNat s.size hx], ⟨[], by rw [← HM1.out, List.map_append, List.append_nil]; rfl⟩, hJx3⟩⟩
      · rw [if_neg hf] at hm
        have HM1 := Lib.hid hm
        clear hm
        gi_wp2
        go_end0
        exact ⟨⟨_, rfl⟩, .inl ⟨pre, by simpa using HM1.out, HJ.out⟩⟩

/-- **pieces(text)**: the text is boxed; the function value captures the box. -/
theorem pieces_calls (s : ByteArray) (w : World) : Calls Tryd.prog 19 #[.string s] w fun e w' => e = .returned (.func (.func 28) #[] #[.pointer (some ⟨w.heap.size, 0, none⟩)]) ∧ w' = w.alloc (.cells #[.string s] 9) := by
  go_enter Tryd.func19, Tryd.ntmps19
  go_wp2
  go_ret
  exact ⟨rfl, rfl⟩
theorem pieces_stops (s : ByteArray) (hs : s.size ≤ 70000) (n : Nat) (hn : 3 ≤ n) (Bs : Nat) (w : World) (hBs : w.cell? ⟨Bs, 0, none⟩ = some (.string s)) :
    SeqStopsK Fence.wide n Tryd.prog 28 #[.pointer (some ⟨Bs, 0, none⟩)] (encP s) (KpW Bs) (fun ys => ys.map Pc.v = mach s (s.size + 1) 0 (-1) false false) (fun pre => pre.map Pc.v <+: mach s (s.size + 1) 0 (-1) false false)
      (mach s (s.size + 1) 0 (-1) false false).length w := fun l J Jx W hW hJ hJx hY h0 => by
  have hlt : Bs < w.heap.size := World.block_lt_of_cell? w _ hBs
  exact pieces1_in s hs n hn l Bs _ rfl J Jx W (Nat.lt_of_lt_of_le hlt hW.size) hJ hJx hY ((hW.cell (p := ⟨Bs, 0, none⟩) hlt).trans hBs) h0

end Go.Proofs.YtonihjijienigaaDoor
