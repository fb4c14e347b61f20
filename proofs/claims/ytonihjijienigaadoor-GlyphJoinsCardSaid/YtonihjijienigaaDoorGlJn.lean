/- Layer 2 (glyph): GlyphJoins, the walk. -/
import Derived.Test.YtonihjijienigaaDoorGlN
import Derived.Test.YtonihjijienigaaDoorGlW
import Derived.Test.YtonihjijienigaaDoorGlS
import Derived.Test.YtonihjijienigaaDoorGlAd
import Derived.Test.YtonihjijienigaaDoorGlL
import Derived.Laws.Runes
namespace Go.Proofs.YtonihjijienigaaDoor
open Go.RowKit Go.Shelf

def and15 (x : Int) : Int := bits BinOp.and IntKind.i64 x 15
theorem and15_bound (x : Int) : ∃ q : Nat, and15 x = (q : Int) ∧ q ≤ 15 := by
  have h : (BitVec.ofInt 64 x &&& BitVec.ofInt 64 15).toNat ≤ 15 := by
    rw [BitVec.toNat_and]
    exact Nat.and_le_right
  refine ⟨(BitVec.ofInt 64 x &&& BitVec.ofInt 64 15).toNat, ?_, h⟩
  have e : and15 x = IntKind.i64.wrap ((BitVec.ofInt 64 x &&& BitVec.ofInt 64 15).toNat : Int) := rfl
  rw [e, IntKind.wrap_i64]
  omega

theorem err_place (s : ByteArray) (hs : s.size ≤ 600) (h : (lexP s).2.2 ≠ 0) : (lexP s).1 = [] ∧ ∃ p : Nat, (lexP s).2.1 = (p : Int) ∧ p < s.size := by
  have hsz : s.data.toList.length = s.size := Array.length_toList
  rw [lexP_T s (by omega)] at h ⊢
  obtain ⟨p, hp, _, hpl, _⟩ := T_ahead s.data.toList _ 0 0 (Nat.lt_succ_self _) (Nat.zero_le _) (by rw [List.drop_zero]; exact h)
  rw [List.drop_zero] at hp
  exact ⟨(T_clean _ s.data.toList 0 0 (Nat.lt_succ_self _)).2 h, p, hp, by omega⟩
theorem fine_place (s : ByteArray) (hs : s.size ≤ 16384) (h : (lexP s).2.2 = 0) : (lexP s).2.1 = 0 ∧ (lexP s).1.length ≤ s.size := by
  have hsz : s.data.toList.length = s.size := Array.length_toList
  rw [lexP_T s hs] at h ⊢
  have := T_count _ s.data.toList 0 0 (Nat.lt_succ_self _)
  exact ⟨(T_clean _ s.data.toList 0 0 (Nat.lt_succ_self _)).1 h, by omega⟩
/-! append of a row of tokens that may be nil -/
theorem run_append_tok (w : World) (ty : TypeId) (base g n cap : Nat) (xs : List Value) (hown : w.ownsRow base 44 5 (.slice (some ⟨g, 0, none⟩) n cap) n xs) (A : Option Addr) (m c : Nat) (l : List Tok) (hl : l.length = m) (hA : TokAt w A l) (hb : n + m ≤ 70000) (hbase : base ≤ w.heap.size) :
    ∃ v' w', (Builtin.append_ #[27, 27] ty #[.slice (some ⟨g, 0, none⟩) n cap, .slice A m c]).run Tryd.prog w = .ok v' w' ∧
      w'.ownsRow base 44 5 v' (n + m) (xs ++ flatT l) ∧ w.grownBy w' (some g) := by
  obtain ⟨i0, hi0, hz0, hz1, hz2⟩ := info_parts' infoRef5
  cases A with
  | none =>
    have hm0 : m = 0 := by
      rcases Nat.eq_zero_or_pos m with h | h
      · exact h
      · obtain ⟨b, off, hh, _⟩ := hA (by omega)
        cases hh
    subst hm0
    obtain rfl := List.eq_nil_of_length_eq_zero hl
    refine ⟨.slice (some ⟨g, 0, none⟩) n cap, w, ?_, by simpa [flatT] using hown, ⟨rfl, rfl, rfl, Nat.le_refl _, fun _ _ _ => rfl⟩⟩
    have hcap : n ≤ cap := by
      rcases hown.2 with ⟨hv, _⟩ | ⟨g', cap', cur, hv, _, _, hnc, _⟩
      · injection hv with h1; cases h1
      · injection hv with _ _ h3; omega
    simp [Builtin.append_, run_underlying Tryd.underlying27, sizeOf, typeInfo, hi0, Builtin.lenOf, Builtin.firstCells, hcap, storeCells]
  | some ad =>
    obtain ⟨v', w', hr, h2, h3, _, _⟩ := run_append_own_at (P := Tryd.prog) w base 27 ty 44 i0 _ 5 48 Tryd.underlying27 hi0 hz0 hz1 hz2 rfl (by decide) _ n xs hown ad m c (flatT l) (by rw [flatT_length, hl]) hA.flat (flatT_one' l) (by unfold maxLen; omega) (by omega) hbase
    exact ⟨v', w', hr, h2, h3⟩
theorem wpList_append_tok {w : World} {ops : Array Oper} {rest : List Oper} {o : Oper} {a : Act} {Q : Exit → Act → World → Prop} (hgd : o.guard = none) (s x : Operand)
    (ho : o.op = .call { callee := .builtin .append, args := #[s, x], argTypes := #[27, 27] })
    (base g n cap : Nat) (xs : List Value) (hs : a.eval s = .slice (some ⟨g, 0, none⟩) n cap) (hown : w.ownsRow base 44 5 (.slice (some ⟨g, 0, none⟩) n cap) n xs) (A : Option Addr) (m c : Nat) (l : List Tok) (hx : a.eval x = .slice A m c) (hl : l.length = m) (hA : TokAt w A l) (hb : n + m ≤ 70000) (hbase : base ≤ w.heap.size)
    (h : ∀ v' w', w'.ownsRow base 44 5 v' (n + m) (xs ++ flatT l) → w.grownBy w' (some g) → wpList Tryd.prog ops Q rest (a.put o.dst v') w') :
    wpList Tryd.prog ops Q (o :: rest) a w := by
  refine wpList_plain hgd fun K hK => ?_
  obtain ⟨v', w', hr, h2, h3⟩ := run_append_tok w o.type base g n cap xs hown A m c l hl hA hb hbase
  unfold Oper.wp execOp
  simp only [ho, resolve, invoke, builtin, Sem.run_bind, Sem.run_pure, Result.andThen_ok, List.map_toArray, List.map_cons, List.map_nil, hs, hx, hr]
  exact hK _ _ (h v' w' h2 h3)

theorem lex_joins (a b : ByteArray) (k : Nat) (N : List UInt8) (hk : k ≤ 15) (ha : a.size ≤ 300) (hb : b.size ≤ 300) (hNl : N.length ≤ 1200) (hN : ∀ d ∈ N, nlC d = true) (X : List Tok × Int × Int)
    (hX : lexP (Bq (a.data.toList ++ ((padL k ++ 35 :: N) ++ 10 :: (padL k ++ b.data.toList)))) = X) :
    ((lexP a).2.2 ≠ 0 → X = lexP a) ∧ ((lexP a).2.2 = 0 → (lexP b).2.2 ≠ 0 → X.2.2 = (lexP b).2.2 ∧ X.2.1 = (lexP b).2.1 + a.size + 2 * (2 * k) + N.length + 2) ∧
    ((lexP a).2.2 = 0 → (lexP b).2.2 = 0 → X.2.2 = 0 ∧ X.1.map Tok.core = (lexP a).1.map Tok.core ++ (3, ⟨#[]⟩, 0) :: (lexP b).1.map Tok.core) := by
  have hpl := padL_len k
  have hla : a.data.toList.length = a.size := Array.length_toList
  have hlb : b.data.toList.length = b.size := Array.length_toList
  rw [lexP_T _ (by rw [Bq_size]; simp only [List.length_append, List.length_cons]; omega), Bq_data] at hX
  have := joins_T a.data.toList b.data.toList N k hN _ _ rfl rfl X hX
  rw [← lexP_T a (by omega), ← lexP_T b (by omega), hla] at this
  exact this

set_option maxRecDepth 100000 in
set_option maxHeartbeats 8000000 in
theorem joins_walk (a : ByteArray) (_ : a.size ≤ maxLen) (b : ByteArray) (_ : b.size ≤ maxLen) (c : ByteArray) (_ : c.size ≤ maxLen) (bl : Int) (_ : -9223372036854775808 ≤ bl ∧ bl ≤ 9223372036854775807) (w : World) (hL : LibV w) :
    Calls Tryd.prog 6 #[.string a, .string b, .string c, .int .i64 bl] w fun e w' => e = .returned (.bool true) ∧ Below w.heap.size w w' := by
  have HAL := Lib.hid (alive_calls w hL)
  have HL := Lib.hid hL
  clear hL
  by_cases hz : a.size ≤ 300 ∧ b.size ≤ 300 ∧ c.size ≤ 300
  · obtain ⟨ha, hb, hc⟩ := hz
    have ha' : (a.size : Int) ≤ 300 := by omega
    have hb' : (b.size : Int) ≤ 300 := by omega
    have hc' : (c.size : Int) ≤ 300 := by omega
    obtain ⟨qt, qa, qe, hq⟩ : ∃ qt qa qe, lexP a = (qt, qa, qe) := ⟨_, _, _, rfl⟩
    obtain ⟨rt, ra, re, hr⟩ : ∃ rt ra re, lexP b = (rt, ra, re) := ⟨_, _, _, rfl⟩
    have HQ := Lib.hid hq
    have HR := Lib.hid hr
    have HA := Lib.hid ha
    have HBz := Lib.hid hb
    have HCz := Lib.hid hc
    clear hq hr ha hb hc
    go_enter Tryd.func6, Tryd.ntmps6
    go_wp2_with (go_at_call 9; refine HAL.out.mono ?_; rintro e w1 ⟨rfl, hb1⟩; refine Hid.out ?_)
    refine Lib.hid ?_
    have h1 := lex_calls a (by have := HA.out; omega) w1 (HL.out.on hb1)
    rw [HQ.out] at h1
    have H1 := Lib.hid h1
    have HB1 := Lib.hid hb1
    clear h1 hb1
    go_wp2_with (go_at_call 10; refine H1.out.mono ?_; rintro e w2 ⟨A2, c2, rfl, ho2, hb2⟩; refine Hid.out ?_)
    refine Lib.hid ?_
    have HB2 := Lib.hid (HB1.out.trans (Joins.below_le hb2 HB1.out.size))
    have HO2 := Lib.hid ho2
    have h2 := lex_calls b (by have := HBz.out; omega) w2 (HL.out.on HB2.out)
    rw [HR.out] at h2
    have H2 := Lib.hid h2
    clear h2 hb2 ho2 H1
    go_wp2_with (go_at_call 10; refine H2.out.mono ?_; rintro e w3 ⟨A3, c3, rfl, ho3, hb3⟩; refine Hid.out ?_)
    refine Lib.hid ?_
    have HB3 := Lib.hid (HB2.out.trans (Joins.below_le hb3 HB2.out.size))
    have HX3 := Lib.hid (own_below HO2.out hb3)
    have HY3 := Lib.hid (show w3.ownsRow w.heap.size 39 5 (.slice A3 rt.length c3) rt.length (flatT rt) from own_base ho3 HB2.out.size)
    clear hb3 ho3 H2 HO2 HB1 HB2 HAL
    go_wp2_with fail
    go_loopw [15] (fun v15 wr => ∃ (N : List UInt8) (pos : Nat), v15 = .string (Bq N) ∧ Hid (N.length ≤ 4 * pos ∧ pos ≤ c.size ∧ ∀ d ∈ N, nlC d = true) ∧
        Hid (wr.heap[w3.heap.size]? = some (.stringIter c pos)) ∧ Hid (Below w3.heap.size w3 wr))
      (fun _ wr => c.size - wr.iterPos w3.heap.size)
    case atStart =>
      refine ⟨[], 0, rfl, Lib.hid ⟨by simp, by omega, by simp⟩, Lib.hid ?_, Lib.hid ?_⟩
      · have := World.iter_heap w3 c 0; simpa using this
      · exact (Below.refl _ w3).alloc (Nat.le_refl _) _
    case round =>
      obtain ⟨N, pos, rfl, HN, HIT, HB⟩ := hrel
      have HBW := Lib.hid (HB3.out.trans (Joins.below_le HB.out HB3.out.size))
      have HX4 := Lib.hid (own_below HX3.out HB.out)
      have HY4 := Lib.hid (own_below HY3.out HB.out)
      by_cases hp : pos < c.size
      case' pos =>
        obtain ⟨r, hr⟩ : ∃ r : Nat, (Utf8.decode c pos).1 = r := ⟨_, rfl⟩
        obtain ⟨k, hk⟩ : ∃ k : Nat, (Utf8.decode c pos).2 = k := ⟨_, rfl⟩
        have hk1 : 1 ≤ k := hk ▸ decode_pos c pos
        have hkl : pos + k ≤ c.size := hk ▸ decode_le c pos hp
        have hnx : ∀ ty, (Instr.next (.pointer (some ⟨w3.heap.size, 0, none⟩)) true ty).run Tryd.prog wr = .ok (.tuple #[.bool true, .int .i64 pos, .int .i32 r]) (wr.iterAt w3.heap.size c (pos + k)) := fun ty => by
          have := Lib.run_next_any_at (P := Tryd.prog) wr w3.heap.size c pos ty HIT.out hp
          rw [hr, hk] at this
          exact this
        have hit1 := Lib.iterAt_heap wr w3.heap.size c pos (pos + k) HIT.out
        have hb1 := Lib.below_iterAt HB.out (k := w3.heap.size) (Nat.le_refl _) c (pos + k)
        have hip : wr.iterPos w3.heap.size = pos := by simp [World.iterPos, HIT.out]
        obtain ⟨w4, hw4⟩ : ∃ w4, wr.iterAt w3.heap.size c (pos + k) = w4 := ⟨_, rfl⟩
        rw [hw4] at hnx hit1 hb1
        have HIT4 := Lib.hid hit1
        have HB4 := Lib.hid hb1
        have HIP := Lib.hid hip
        have HKL := Lib.hid (⟨hk1, hkl⟩ : 1 ≤ k ∧ pos + k ≤ c.size)
        clear hit1 hb1 hip hk1 hkl hw4 hr hk
        by_cases h10 : (r : Int) = 10
        case' neg =>
          have n10 : ((r : Int) == 10) = false := by simpa using h10
          have hen := encode_nl (r : Int) h10
          obtain ⟨E, hE⟩ : ∃ E, (Utf8.encode (r : Int)).data.toList = E := ⟨_, rfl⟩
          have hE' : Utf8.encode (r : Int) = Bq E := by rw [← hE]; exact (Bq_of _).symm
          rw [hE] at hen
          have hcv : ∀ W, (convert 21 9 (.int .i32 (r : Int))).run Tryd.prog W = .ok (.string (Bq E)) W := fun W => by
            rw [run_convert_int_string W _ _ _ _ (by rw [Tryd.underlying21]; rfl) Tryd.underlying9, hE']
          have had := fun W => add_run (Bq N) (Bq E) (Bq (N ++ E)) (Bq_append N E) (by have := HN.out.1; have := HN.out.2.1; have := HCz.out; rw [Bq_size, Bq_size]; omega) W
          have HEN := Lib.hid hen
          clear hE hE' hen h10
          go_wp2_with fail
          refine ⟨⟨N ++ E, pos + k, rfl, Lib.hid ⟨by have h1 := HN.out.1; have h2 := HEN.out.2; have h3 := HKL.out; rw [List.length_append]; omega, HKL.out.2, fun d hd => ?_⟩, HIT4, HB4⟩, ?_⟩
          · rcases List.mem_append.1 hd with h | h
            · exact HN.out.2.2 d h
            · exact HEN.out.1 d h
          · rw [HIP.out]
            have h1 := HIT4.out
            have h2 := HKL.out
            simp only [World.iterPos, h1]
            omega
        have n10 : ((r : Int) == 10) = true := by simpa using h10
        have HX5 := Lib.hid (own_below HX3.out HB4.out)
        have HY5 := Lib.hid (own_below HY3.out HB4.out)
        have HB5 := Lib.hid (HB3.out.trans (Joins.below_le HB4.out HB3.out.size))
        clear h10
        go_wp2_with fail
        clear hnx n10
      case' neg =>
        have hnx : ∀ ty, (Instr.next (.pointer (some ⟨w3.heap.size, 0, none⟩)) true ty).run Tryd.prog wr = .ok (.tuple #[.bool false]) wr := fun ty => Lib.run_next_end_at (P := Tryd.prog) wr w3.heap.size c pos ty HIT.out hp
        have HX5 := HX4
        have HY5 := HY4
        have HB5 := HBW
        obtain ⟨w4, hw4⟩ : ∃ w4, w4 = wr := ⟨_, rfl⟩
        subst hw4
        go_wp2_with fail
        clear hnx
      all_goals
        obtain ⟨q, hqq, hq15⟩ := and15_bound bl
        unfold and15 at hqq
        rw [hqq]
        have HNl := Lib.hid (show N.length ≤ 1200 by have h1 := HN.out.1; have h2 := HN.out.2.1; have h3 := HCz.out; omega)
        have HNn := Lib.hid HN.out.2.2
        clear HN hqq
        go_loopw [18, 63] (fun v18 vk wx => ∃ (k : Nat), v18 = .string (Bq (padL k)) ∧ vk = .int .i64 (k : Int) ∧ Hid (k ≤ q) ∧ Hid (w4 = wx)) (fun _ vk _ => q - (intOf vk).toNat)
        case atStart => exact ⟨0, rfl, rfl, Lib.hid (Nat.zero_le _), Lib.hid rfl⟩
        case round =>
          obtain ⟨k, rfl, rfl, HK, HWX⟩ := hrel
          have hwx := HWX.out
          subst hwx
          have hkq : (k : Int) ≤ 15 := by have := HK.out; omega
          by_cases hk : k < q
          · have had := fun W => add_run (Bq (padL k)) ⟨#[32, 9]⟩ (Bq (padL (k + 1))) (by rw [padL_succ]; exact Bq_append _ [32, 9]) (show (Bq (padL k)).size + 2 ≤ 9223372036854775807 by rw [Bq_size, padL_len]; omega) W
            go_wp2_with fail
            go_round
            case rel => exact ⟨k + 1, rfl, by go_num, Lib.hid (by omega), Lib.hid trivial⟩
            case measure => simp [intOf]; omega
          · have hkq' : k = q := by have := HK.out; omega
            subst hkq'
            have hpl := padL_len k
            have hla : a.data.toList.length = a.size := Array.length_toList
            have hlb : b.data.toList.length = b.size := Array.length_toList
            obtain ⟨X, hX⟩ : ∃ X, lexP (Bq (a.data.toList ++ ((padL k ++ 35 :: N) ++ 10 :: (padL k ++ b.data.toList)))) = X := ⟨_, rfl⟩
            have hjn := lex_joins a b k N (by omega) HA.out HBz.out HNl.out HNn.out X hX
            rw [HQ.out, HR.out] at hjn
            obtain ⟨S6, hS6⟩ : ∃ S6, Bq (a.data.toList ++ ((padL k ++ 35 :: N) ++ 10 :: (padL k ++ b.data.toList))) = S6 := ⟨_, rfl⟩
            rw [hS6] at hX
            have hS6z : S6.size ≤ 65536 := by
              rw [← hS6, Bq_size]
              simp only [List.length_append, List.length_cons]
              have := HA.out; have := HBz.out; have := HNl.out; omega
            have hsum : a ++ Bq (padL k) ++ Bq [35] ++ Bq N ++ Bq [10] ++ Bq (padL k) ++ b = S6 := by
              have e1 : a = Bq a.data.toList := rfl
              have e2 : b = Bq b.data.toList := rfl
              rw [← hS6, e1, e2]
              simp only [Bq_append, Bq_data]
              congr 1
              simp
            obtain ⟨S1, hS1⟩ : ∃ S1, a ++ Bq (padL k) = S1 := ⟨_, rfl⟩
            have z1 : S1.size = a.size + 2 * k := by rw [← hS1, ByteArray.size_append, Bq_size, hpl]
            rw [hS1] at hsum
            obtain ⟨S2, hS2⟩ : ∃ S2, S1 ++ Bq [35] = S2 := ⟨_, rfl⟩
            have z2 : S2.size = S1.size + 1 := by rw [← hS2, ByteArray.size_append, Bq_size]; rfl
            rw [hS2] at hsum
            obtain ⟨S3, hS3⟩ : ∃ S3, S2 ++ Bq N = S3 := ⟨_, rfl⟩
            have z3 : S3.size = S2.size + N.length := by rw [← hS3, ByteArray.size_append, Bq_size]
            rw [hS3] at hsum
            obtain ⟨S4, hS4⟩ : ∃ S4, S3 ++ Bq [10] = S4 := ⟨_, rfl⟩
            have z4 : S4.size = S3.size + 1 := by rw [← hS4, ByteArray.size_append, Bq_size]; rfl
            rw [hS4] at hsum
            obtain ⟨S5, hS5⟩ : ∃ S5, S4 ++ Bq (padL k) = S5 := ⟨_, rfl⟩
            have z5 : S5.size = S4.size + 2 * k := by rw [← hS5, ByteArray.size_append, Bq_size, hpl]
            rw [hS5] at hsum
            have hsz := HA.out
            have hbz := HBz.out
            have hnz := HNl.out
            have a1 := fun W => add_run a (Bq (padL k)) S1 hS1 (by rw [Bq_size, hpl]; omega) W
            have a2 := fun W => add_run S1 ⟨#[35]⟩ S2 hS2 (show S1.size + 1 ≤ 9223372036854775807 by rw [z1]; omega) W
            have a3 := fun W => add_run S2 (Bq N) S3 hS3 (by rw [z2, z1, Bq_size]; omega) W
            have a4 := fun W => add_run S3 ⟨#[10]⟩ S4 hS4 (show S3.size + 1 ≤ 9223372036854775807 by rw [z3, z2, z1]; omega) W
            have a5 := fun W => add_run S4 (Bq (padL k)) S5 hS5 (by rw [z4, z3, z2, z1, Bq_size, hpl]; omega) W
            have a6 := fun W => add_run S5 b S6 hsum (by rw [z5, z4, z3, z2, z1]; omega) W
            have h5 := lex_calls S6 hS6z w4 (HL.out.on HB5.out)
            rw [hX] at h5
            have H5 := Lib.hid h5
            have HJN := Lib.hid hjn
            have szP : (Bq (padL k)).size = 2 * k := by rw [Bq_size, hpl]
            have szN : (Bq N).size = N.length := Bq_size N
            clear h5 hjn hS6 hX hS6z hsum hS1 hS2 hS3 hS4 hS5 z1 z2 z3 z4 z5 hla hlb hpl hsz hbz
            go_wp2_with (go_at_call 10; refine Hid.out ?_)
            refine Lib.hid ?_
            clear a1 a2 a3 a4 a5 a6
            refine H5.out.mono ?_
            rintro e w5 ⟨A5, c5, rfl, ho5, hb5⟩
            have HB6 := Lib.hid (HB5.out.trans (Joins.below_le hb5 HB5.out.size))
            have HX6 := Lib.hid (own_below HX5.out hb5)
            have HY6 := Lib.hid (own_below HY5.out hb5)
            have HO6 := Lib.hid (show w5.ownsRow w.heap.size 39 5 (.slice A5 X.1.length c5) X.1.length (flatT X.1) from own_base ho5 HB5.out.size)
            clear ho5 hb5 H5
            by_cases hqe : qe = 0
            · by_cases hre : re = 0
              · subst hqe hre
                obtain ⟨hx0, hxc⟩ := HJN.out.2.2 rfl rfl
                obtain ⟨xt, xa, xe⟩ := X
                have hx0 : xe = 0 := hx0
                subst hx0
                have hxc : xt.map Tok.core = qt.map Tok.core ++ (3, ⟨#[]⟩, 0) :: rt.map Tok.core := hxc
                have hql := (fine_place a (by have := HA.out; omega) (by rw [HQ.out])).2
                have hrl := (fine_place b (by have := HBz.out; omega) (by rw [HR.out])).2
                rw [HQ.out] at hql
                rw [HR.out] at hrl
                have hql : qt.length ≤ 300 := Nat.le_trans hql HA.out
                have hrl : rt.length ≤ 300 := Nat.le_trans hrl HBz.out
                have hxl : xt.length = qt.length + (rt.length + 1) := by have := congrArg List.length hxc; simpa using this
                have HXC := Lib.hid hxc
                have h6 := as_calls A2 qt c2 w5 (TokAt.of_own HX6.out rfl) (by omega)
                obtain ⟨Lq, hLq⟩ : ∃ n, qt.length = n := ⟨_, rfl⟩
                obtain ⟨Lr, hLr⟩ : ∃ n, rt.length = n := ⟨_, rfl⟩
                rw [hLq] at h6 hql hxl ⊢
                rw [hLr] at hrl hxl ⊢
                have H6 := Lib.hid h6
                have HLq := Lib.hid hLq
                have HLr := Lib.hid hLr
                have HXL := Lib.hid hxl
                simp only [hxl]
                clear h6 hLq hLr hxl hxc
                obtain ⟨i0, hi0, hz0, hz1, hz2⟩ := info_parts' infoRef5
                go_wp2_with (go_at_call 13; refine H6.out.mono ?_; rintro e w6 ⟨A6, c6, rfl, ho6, hb6⟩; refine Hid.out ?_)
                refine Lib.hid ?_
                have HB7 := Lib.hid (HB6.out.trans (Joins.below_le hb6 HB6.out.size))
                have HY7 := Lib.hid (own_below HY6.out hb6)
                have HO7 := Lib.hid (own_below HO6.out hb6)
                have HR7 := Lib.hid (show w6.ownsRow w.heap.size 44 5 (.slice A6 Lq c6) Lq (flatT qt) from own_base ho6 HB6.out.size)
                clear hb6 ho6 H6
                go_wp2_with (at_builtin; refine Hid.out ?_)
                refine Lib.hid ?_
                refine wpList_append_own_at _ rfl (.tmp 116) (.tmp 118) 27 rfl w.heap.size 44 i0 _ 5 48 Tryd.underlying27 hi0 hz0 hz1 hz2 rfl (by decide) (.slice A6 Lq c6) Lq (flatT qt) rfl (HR7.out.alloc _) ⟨w6.heap.size, 0, none⟩ 1 1 (Tok.L ⟨3, ⟨#[]⟩, 0, 0, 0⟩) rfl rfl (news_at _ (tokC ⟨3, ⟨#[]⟩, 0, 0, 0⟩) _ _ rfl) (fun u hu => flatT_one' [⟨3, ⟨#[]⟩, 0, 0, 0⟩] u (by rw [flatT_one]; exact hu)) (by unfold maxLen; omega) (by omega) (Nat.le_trans HB7.out.size (by simp)) ?_
                intro v7 w7 ho7 hg7 _ _
                obtain ⟨g7, c7, rfl⟩ := ownsRow_succ ho7
                have hb7 : Below w.heap.size w w7 := (HB7.out.alloc HB7.out.size _).grown hg7 (by have := HB7.out.size; simp; omega) (fun j e => (HR7.out.lt j e).1)
                have hk7 : ∀ j, (Value.slice A6 Lq c6).ownBlock = some j → ∀ cs fr, w6.heap[j]? ≠ some (Obj.cells cs 39 fr) := fun j hj cs fr he => by
                  rcases HR7.out.2 with ⟨hv, _⟩ | ⟨gg, cap, cur, hv, _, hgg, _⟩
                  · rw [hv] at hj; simp [Value.ownBlock] at hj
                  · rw [hv] at hj
                    have : gg = j := by simpa [Value.ownBlock] using hj
                    subst this
                    rw [hgg] at he
                    injection he with he
                    injection he with _ he
                    exact absurd he (by decide)
                have keep : ∀ {v : Value} {n : Nat} {xs : List Value}, w6.ownsRow w.heap.size 39 5 v n xs → w7.ownsRow w.heap.size 39 5 v n xs := fun h =>
                  own_tok_keep h (fun j cs fr hj => (hg7.block j (by have := (Array.getElem?_eq_some_iff.1 hj).1; simp; omega) (fun e => hk7 j e.symm cs fr hj)).trans ((Below.heap_alloc w6 _ j (Array.getElem?_eq_some_iff.1 hj).1).trans hj))
                have HB8 := Lib.hid hb7
                have HY8 := Lib.hid (keep HY7.out)
                have HO8 := Lib.hid (keep HO7.out)
                have HR8 := Lib.hid ho7
                clear hg7 hb7 keep hk7 ho7
                have h8 := as_calls A3 rt c3 w7 (TokAt.of_own HY8.out rfl) (by rw [HLr.out]; omega)
                rw [HLr.out] at h8
                have H8 := Lib.hid h8
                clear h8
                go_wp2_with (go_at_call 13; refine H8.out.mono ?_; rintro e w8 ⟨A8, c8, rfl, ho8, hb8⟩; refine Hid.out ?_)
                refine Lib.hid ?_
                have HB9 := Lib.hid (HB8.out.trans (Joins.below_le hb8 HB8.out.size))
                have HO9 := Lib.hid (own_below HO8.out hb8)
                have HR9 := Lib.hid (own_below HR8.out hb8)
                have HT9 := Lib.hid (TokAt.of_own ho8 HLr.out)
                clear hb8 ho8 H8
                go_wp2_with (at_builtin; refine Hid.out ?_)
                refine Lib.hid ?_
                refine wpList_append_tok rfl (.tmp 119) (.tmp 121) rfl w.heap.size g7 (Lq + 1) c7 (flatT qt ++ Tok.L ⟨3, ⟨#[]⟩, 0, 0, 0⟩) rfl HR9.out A8 Lr c8 rt rfl HLr.out HT9.out (by omega) HB9.out.size ?_
                intro v9 w9 ho9 hg9
                have hft : flatT qt ++ Tok.L ⟨3, ⟨#[]⟩, 0, 0, 0⟩ ++ flatT rt = flatT (qt ++ ⟨3, ⟨#[]⟩, 0, 0, 0⟩ :: rt) := by
                  rw [show qt ++ (⟨3, ⟨#[]⟩, 0, 0, 0⟩ : Tok) :: rt = qt ++ ([⟨3, ⟨#[]⟩, 0, 0, 0⟩] ++ rt) from rfl, flatT_append, flatT_append, flatT_one, List.append_assoc]
                rw [hft] at ho9
                obtain ⟨g9, c9, rfl⟩ : ∃ g9 c9, v9 = .slice (some ⟨g9, 0, none⟩) (Lq + 1 + Lr) c9 := by
                  rcases ho9.2 with ⟨_, h0⟩ | ⟨gg, cap, cur, hv, _⟩
                  · omega
                  · exact ⟨gg, cap, hv⟩
                have hb9 : Below w.heap.size w w9 := HB9.out.grown hg9 HB9.out.size (fun j e => by
                  injection e with e
                  subst e
                  exact (HR9.out.lt g7 rfl).1)
                have hk9 : ∀ cs fr, w8.heap[g7]? ≠ some (Obj.cells cs 39 fr) := fun cs fr he => by
                  rcases HR9.out.2 with ⟨hv, _⟩ | ⟨gg, cap, cur, hv, _, hgg, _⟩
                  · cases hv
                  · injection hv with h1
                    injection h1 with h1
                    injection h1 with h1
                    subst h1
                    rw [hgg] at he
                    injection he with he
                    injection he with _ he
                    exact absurd he (by decide)
                have HO10 := Lib.hid (own_tok_keep HO9.out (fun j cs fr hj => (hg9.block j (Array.getElem?_eq_some_iff.1 hj).1 (fun e => by
                  injection e with e
                  subst e
                  exact hk9 cs fr hj)).trans hj))
                have hlen9 : (qt ++ (⟨3, ⟨#[]⟩, 0, 0, 0⟩ : Tok) :: rt).length = Lq + 1 + Lr := by rw [List.length_append, List.length_cons, HLq.out, HLr.out]; omega
                have HB10 := Lib.hid hb9
                have HT10 := Lib.hid (TokAt.of_own ho9 hlen9)
                have HLN := Lib.hid hlen9
                clear ho9 hg9 hb9 hk9 hft hlen9
                have h10 := as_calls A5 xt c5 w9 (TokAt.of_own HO10.out rfl) (by rw [HXL.out]; omega)
                rw [HXL.out] at h10
                have H10 := Lib.hid h10
                clear h10
                go_wp2_with (go_at_call 13; refine H10.out.mono ?_; rintro e w10 ⟨A10, c10, rfl, ho10, hb10⟩; refine Hid.out ?_)
                refine Lib.hid ?_
                have HB11 := Lib.hid (HB10.out.trans (Joins.below_le hb10 HB10.out.size))
                have HT11 := Lib.hid (HT10.out.on hb10)
                have HS11 := Lib.hid (TokAt.of_own ho10 HXL.out)
                have h11 := same_calls A10 (some ⟨g9, 0, none⟩) xt (qt ++ (⟨3, ⟨#[]⟩, 0, 0, 0⟩ : Tok) :: rt) c10 c9 w10 HS11.out HT11.out (by rw [HXC.out, List.map_append, List.map_cons]; rfl) (by rw [HXL.out]; omega)
                rw [HXL.out, HLN.out] at h11
                have H11 := Lib.hid h11
                clear h11 ho10 hb10 H10
                go_wp2_with (go_at_call 18; refine H11.out.mono ?_; rintro e w11 ⟨rfl, hb11⟩)
                go_ret
                exact ⟨rfl, HB11.out.trans (Joins.below_le hb11 HB11.out.size)⟩
              · subst hqe
                obtain ⟨hx1, hx2⟩ := HJN.out.2.1 rfl hre
                obtain ⟨xt, xa, xe⟩ := X
                have hx1 : xe = re := hx1
                have hx2 : xa = ra + a.size + 2 * (2 * k) + N.length + 2 := hx2
                obtain ⟨_, p, hp, hpl⟩ := err_place b (by have := HBz.out; omega) (by rw [HR.out]; exact hre)
                rw [HR.out] at hp
                have hp : ra = (p : Int) := hp
                subst hp
                subst hx1
                have n0 : (xe == 0) = false := by simpa using hre
                have n1 : (xe != 0) = true := by simpa using hre
                have hpb : (p : Int) ≤ 300 := by omega
                have hk15 : (k : Int) ≤ 15 := by omega
                have hN12 : (N.length : Int) ≤ 1200 := by omega
                have HX2 := Lib.hid hx2
                clear hre hx2
                go_wp2_with fail
                go_ret
                exact ⟨rfl, HB6.out⟩
            · have hx := HJN.out.1 hqe
              subst hx
              have n0 : (qe == 0) = false := by simpa using hqe
              have n1 : (qe != 0) = true := by simpa using hqe
              go_wp2_with fail
              go_ret
              exact ⟨rfl, HB6.out⟩
  · have hcase : (300 : Int) < a.size ∨ ((a.size : Int) ≤ 300 ∧ (300 : Int) < b.size) ∨ ((a.size : Int) ≤ 300 ∧ (b.size : Int) ≤ 300 ∧ (300 : Int) < c.size) := by omega
    rcases hcase with h | ⟨h, h'⟩ | ⟨h, h', h''⟩
    all_goals
      go_enter Tryd.func6, Tryd.ntmps6
      go_wp2_with (go_at_call 9; refine HAL.out.mono ?_; rintro e w1 ⟨rfl, hb1⟩)
      go_ret
      exact ⟨rfl, hb1⟩
end Go.Proofs.YtonihjijienigaaDoor
