/- WsetFull: the walk of the law. -/
import Derived.Test.YtlpmgbimffmmkaaWsFm
import Derived.Test.YtlpmgbimffmmkaaWsG
import Derived.LoopTactic
namespace Go.Proofs.Ytlpmgbimffmmkaa
open Go.RowKit Go.Maps

theorem and63 (x : Int) : ∃ t : Nat, t ≤ 63 ∧ bits BinOp.and IntKind.i64 x 63 = (t : Int) := andB_bound x 63 (by decide)
theorem and16 (x : Int) : ∃ t : Nat, t ≤ 65535 ∧ bits BinOp.and IntKind.i64 x 65535 = (t : Int) := andB_bound x 65535 (by decide)
def FuA (w : World) (b : Nat) (f s : Int) (r : Nat) (i : Value) (wr : World) : Prop := ∃ (W : World) (k : Nat) (ps : List (Int × Int)), W = wr ∧ i = .int .i64 k ∧ k ≤ r ∧ SG w W b r ps k ∧ P1 f s k ps
def FuB (w : World) (b : Nat) (f s more : Int) (r : Nat) (i : Value) (wr : World) : Prop := ∃ (W : World) (k : Nat) (ps : List (Int × Int)), W = wr ∧ i = .int .i64 k ∧ k ≤ r ∧ SG w W b r ps (r + 1 + k) ∧ P2 f s more r k ps
def FuC (w : World) (b : Nat) (f s more : Int) (r : Nat) (ps : List (Int × Int)) (i : Value) (wr : World) : Prop := ∃ (W : World) (k : Nat), W = wr ∧ i = .int .i64 k ∧ k ≤ r ∧ SG w W b r ps (r + 1 + r)

theorem fu_bounds {f s k r : Nat} (hf : f ≤ 65535) (hs : s ≤ 65536) (hk : k ≤ r) (hr : r ≤ 63) : 0 ≤ (k : Int) * (s : Int) ∧ (k : Int) * (s : Int) ≤ 4128768 := by
  have h : k * s ≤ 63 * 65536 := Nat.mul_le_mul (by omega) hs
  constructor
  · exact Int.mul_nonneg (by omega) (by omega)
  · have := Int.ofNat_le.2 h
    simpa using this

set_option maxRecDepth 100000 in
set_option maxHeartbeats 1000000 in
theorem full_walk (room from_ step more : Int) (w : World) (h0 : Int64 room) (h1 : Int64 from_) (h2 : Int64 step) (h3 : 0 ≤ more ∧ more ≤ 18446744073709551615) :
    Calls Try.prog 11 #[.int .i64 room, .int .i64 from_, .int .i64 step, .int .u64 more] w fun e w' => e = .returned (.bool true) ∧ Kept (fun _ => False) w w' := by
  obtain ⟨r, hr, er⟩ := and63 room
  obtain ⟨f, hf, ef⟩ := and16 from_
  obtain ⟨s0, hs0, es⟩ := and16 step
  clear h0 h1 h2
  go_enter Try.func11, Try.ntmps11
  go_wp2_with (first
    | (go_at_call 34; (with_reducible refine (alive8_calls _).mono ?_); rintro e w1 ⟨rfl, hk1⟩; have HK1 := Lib.hid hk1; clear hk1)
    | (go_at_call 35; (refine (SG.new (w0 := w) HK1.out _).mono ?_); rintro e w2 ⟨b, rfl, h2⟩; rw [roomOf_in (by omega) (by omega)] at h2; have H2 := Lib.hid h2; clear h2))
  go_loopw [29] (fun i wr => FuA w b f (1 + s0) r i wr) (fun i _ => r - (intOf i).toNat)
  case atStart => exact ⟨_, 0, [], rfl, rfl, by omega, H2.out, P1.zero _ _⟩
  case round =>
    obtain ⟨W, k, ps, rfl, rfl, hk, hS, hP⟩ := hrel
    obtain ⟨hb1, hb2⟩ := fu_bounds (f := f) (s := 1 + s0) hf (by omega) hk hr
    simp only [Int.natCast_add, Int.natCast_one] at hb1 hb2
    by_cases hlt : k < r
    · obtain ⟨he, hP'⟩ := hP.step (by omega : (1 : Int) ≤ 1 + s0) hlt k
      have hI : I64 ((f : Int) + k * (1 + s0)) := by unfold I64; omega
      have hl : ps.length ≤ 60000 := by rw [hP.len]; omega
      have HI := Lib.hid hI
      have HL := Lib.hid hl
      have HS := Lib.hid hS
      have HE := Lib.hid he
      have HP := Lib.hid hP'
      clear hS hP he hP' hI hl
      go_wp2_with (go_at_call 40; (refine (SG.put HS.out ((f : Int) + k * (1 + s0)) _ HI.out HL.out (by omega)).mono ?_); rw [HE.out]; rintro e w3 ⟨rfl, h3⟩; have H3 := Lib.hid h3; clear h3)
      exact ⟨⟨_, k + 1, _, rfl, by simp, by omega, H3.out, HP.out⟩, by simp [intOf]; omega⟩
    · obtain rfl : r = k := by omega
      obtain ⟨he, hps, hP2⟩ := hP.full 1 more
      have hI : I64 ((f : Int) + r * (1 + s0)) := by unfold I64; omega
      have hl : ps.length ≤ 60000 := by rw [hP.len]; omega
      have HI := Lib.hid hI
      have HL := Lib.hid hl
      have HS := Lib.hid hS
      have HE := Lib.hid he
      have HPS := Lib.hid hps
      have HEN := Lib.hid hP2.ens
      have HP := Lib.hid hP2
      clear hS hP he hps hP2 hI hl hlt hk
      go_wp2_with (first
        | (go_at_call 40; (refine (SG.put HS.out ((f : Int) + r * (1 + s0)) 1 HI.out HL.out (by omega)).mono ?_); rw [HE.out, HPS.out]; rintro e w3 ⟨rfl, h4⟩; have H3 := Lib.hid h4; clear h4)
        | (go_at_call 43; (refine (len_calls H3.out.1).mono ?_); rw [HEN.out]; rintro e w4 ⟨rfl, rfl⟩))
      go_loopw [58] (fun i wr => FuB w b f (1 + s0) more r i wr) (fun i _ => r - (intOf i).toNat)
      case atStart => exact ⟨_, 0, ps, rfl, rfl, by omega, H3.out, HP.out⟩
      case round =>
        clear hb1 hb2
        obtain ⟨W2, k, ps2, rfl, rfl, hk, hS, hP⟩ := hrel
        obtain ⟨hb1, hb2⟩ := fu_bounds (f := f) (s := 1 + s0) hf (by omega) hk hr
        simp only [Int.natCast_add, Int.natCast_one] at hb1 hb2
        by_cases hlt : k < r
        · obtain ⟨he, hP'⟩ := hP.step (by omega : (1 : Int) ≤ 1 + s0) hlt
          have hI : I64 ((f : Int) + k * (1 + s0)) := by unfold I64; omega
          have hl : ps2.length ≤ 60000 := by rw [hP.len]; omega
          replace HI := Lib.hid hI
          replace HL := Lib.hid hl
          replace HS := Lib.hid hS
          replace HE := Lib.hid he
          replace HP := Lib.hid hP'
          clear hS hP he hP' hI hl
          go_wp2_with (go_at_call 40; (refine (SG.put HS.out ((f : Int) + k * (1 + s0)) _ HI.out HL.out (by omega)).mono ?_); rw [HE.out]; rintro e w5 ⟨rfl, h5⟩; have H5 := Lib.hid h5; clear h5)
          exact ⟨⟨_, k + 1, _, rfl, by simp, by omega, H5.out, HP.out⟩, by simp [intOf]; omega⟩
        · obtain rfl : r = k := by omega
          replace HS := Lib.hid hS
          replace HP := Lib.hid hP
          clear hS hP
          have hlen : ps2.length = r + r := HP.out.len
          have HG : Hid (∀ k, k < r → getV ps2 ((f : Int) + k * (1 + s0)) = .tuple #[.int .u64 (IntKind.u64.wrap (more + k)), .bool true]) := Lib.hid (fun k hk => HP.out.get hk)
          have HGN : Hid (getV ps2 ((f : Int) + r * (1 + s0)) = .tuple #[.int .u64 0, .bool false]) := Lib.hid (HP.out.getN)
          have HLen := Lib.hid hlen
          replace HEN : Hid ((ents ps2).length = r) := Lib.hid HP.out.ens
          clear hlen hlt hk hb1 hb2
          go_wp2_with fail
          go_loopw [75] (fun i wr => FuC w b f (1 + s0) more r ps2 i wr) (fun i _ => r - (intOf i).toNat)
          case atStart => exact ⟨_, 0, rfl, rfl, by omega, HS.out⟩
          case round =>
            obtain ⟨W3, k, rfl, rfl, hk, hS⟩ := hrel
            replace HS := Lib.hid hS
            clear hS
            obtain ⟨hb1, hb2⟩ := fu_bounds (f := f) (s := 1 + s0) hf (by omega) hk hr
            simp only [Int.natCast_add, Int.natCast_one] at hb1 hb2
            by_cases hlt : k < r
            · have hI : I64 ((f : Int) + k * (1 + s0)) := by unfold I64; omega
              replace HI := Lib.hid hI
              have hg := HG.out k hlt
              replace HE := Lib.hid hg
              clear hI hg
              go_wp2_with (go_at_call 47; (refine (get_calls HS.out.1 ((f : Int) + k * (1 + s0)) HI.out).mono ?_); rw [HE.out]; rintro e w6 ⟨rfl, rfl⟩)
              exact ⟨⟨_, k + 1, rfl, by simp, by omega, HS.out⟩, by simp [intOf]; omega⟩
            · obtain rfl : r = k := by omega
              have hI : I64 ((f : Int) + r * (1 + s0)) := by unfold I64; omega
              replace HI := Lib.hid hI
              clear hI hlt hk
              go_wp2_with (first
                | (go_at_call 47; (refine (get_calls HS.out.1 ((f : Int) + r * (1 + s0)) HI.out).mono ?_); rw [HGN.out]; rintro e w6 ⟨rfl, rfl⟩)
                | (go_at_call 43; (refine (len_calls HS.out.1).mono ?_); rw [HEN.out]; rintro e w7 ⟨rfl, rfl⟩)
                | (go_at_call 42; (refine (mark_calls HS.out.1).mono ?_); rw [HLen.out]; rintro e w8 ⟨rfl, rfl⟩))
              go_ret
              have hrr : ((r : Int) + r == 2 * r) = true := by simp; omega
              exact ⟨by rw [hrr]; rfl, HS.out.2⟩
end Go.Proofs.Ytlpmgbimffmmkaa
