/- Layer 2 (glyph): what a text is read as, byte by byte, by definition; the program's machine of pieces comes to it. -/
import Derived.Test.YtonihjijienigaaDoorGlG
namespace Go.Proofs.YtonihjijienigaaDoor
open Go.RowKit

def Bq (l : List UInt8) : ByteArray := ⟨l.toArray⟩
theorem Bq_data (l : List UInt8) : (Bq l).data.toList = l := rfl
theorem Bq_size (l : List UInt8) : (Bq l).size = l.length := rfl
theorem Bq_of (s : ByteArray) : Bq s.data.toList = s := rfl
theorem Bq_inj {a b : List UInt8} (h : Bq a = Bq b) : a = b := by
  have := congrArg (fun s : ByteArray => s.data.toList) h
  exact this
theorem extract_Bq (s : ByteArray) (a b : Nat) : s.extract a b = Bq ((s.data.toList.drop a).take (b - a)) := by
  have : (s.extract a b).data.toList = (s.data.toList.drop a).take (b - a) := by
    rw [ByteArray.data_extract, Array.toList_extract]
  rw [← this]
  rfl

/-- The rune that begins a text, and how many bytes it has. -/
def decL (l : List UInt8) : Nat × Nat := Lib.decodeN l.length (l.getD 0 0).toNat (l.getD 1 0).toNat (l.getD 2 0).toNat (l.getD 3 0).toNat
theorem get!_getD (s : ByteArray) (i : Nat) : s.get! i = s.data.toList.getD i 0 := by
  show s.data[i]! = _
  rw [Array.getElem!_eq_getD, Array.getD_eq_getD_getElem?, List.getD_eq_getElem?_getD, Array.getElem?_toList]
  rfl
theorem dec_drop (s : ByteArray) (p : Nat) : Utf8.decode s p = decL (s.data.toList.drop p) := by
  rw [Lib.decode_at]
  unfold decL
  have h : ∀ j, s.get! (p + j) = (s.data.toList.drop p).getD j 0 := fun j => by
    rw [get!_getD, List.getD_eq_getElem?_getD, List.getD_eq_getElem?_getD, List.getElem?_drop]
  rw [← h 0, ← h 1, ← h 2, ← h 3, List.length_drop]
  rfl
theorem decL_ascii (c : UInt8) (r : List UInt8) (h : c.toNat < 128) : decL (c :: r) = (c.toNat, 1) := by
  unfold decL Lib.decodeN
  rw [if_pos (by simpa using h)]
  rfl
theorem decodeN_big (n b0 b1 b2 b3 : Nat) (h : 128 ≤ b0) : 128 ≤ (Lib.decodeN n b0 b1 b2 b3).1 := by
  unfold Lib.decodeN
  repeat' split
  all_goals (simp only; omega)
theorem decodeN_le (n b0 b1 b2 b3 : Nat) (h : 0 < n) : 1 ≤ (Lib.decodeN n b0 b1 b2 b3).2 ∧ (Lib.decodeN n b0 b1 b2 b3).2 ≤ n := by
  unfold Lib.decodeN
  repeat' split
  all_goals (simp only; omega)
theorem decodeN_cont (n b0 b1 b2 b3 : Nat) : (1 < (Lib.decodeN n b0 b1 b2 b3).2 → 128 ≤ b1) ∧ (2 < (Lib.decodeN n b0 b1 b2 b3).2 → 128 ≤ b2) ∧ (3 < (Lib.decodeN n b0 b1 b2 b3).2 → 128 ≤ b3) ∧ (Lib.decodeN n b0 b1 b2 b3).2 ≤ 4 := by
  unfold Lib.decodeN
  repeat' split
  all_goals (simp only; omega)
theorem decL_big (c : UInt8) (r : List UInt8) (h : 128 ≤ c.toNat) : 128 ≤ (decL (c :: r)).1 := decodeN_big _ _ _ _ _ (by simpa using h)
theorem decL_le (l : List UInt8) (h : l ≠ []) : 1 ≤ (decL l).2 ∧ (decL l).2 ≤ l.length := decodeN_le _ _ _ _ _ (List.length_pos_iff.2 h)
theorem decL_cont (l : List UInt8) : ∀ j, 1 ≤ j → j < (decL l).2 → 128 ≤ (l.getD j 0).toNat := by
  intro j h1 hj
  obtain ⟨a, b, c, d⟩ := decodeN_cont l.length (l.getD 0 0).toNat (l.getD 1 0).toNat (l.getD 2 0).toNat (l.getD 3 0).toNat
  have hj' : j < (Lib.decodeN l.length (l.getD 0 0).toNat (l.getD 1 0).toNat (l.getD 2 0).toNat (l.getD 3 0).toNat).2 := hj
  have : j = 1 ∨ j = 2 ∨ j = 3 := by omega
  rcases this with rfl | rfl | rfl
  · exact a hj'
  · exact b hj'
  · exact c hj'

def nlC (c : UInt8) : Bool := decide (c.toNat ≠ 10)
def tokLen (l : List UInt8) : Nat := match l with
  | [] => 1
  | c :: r => if beginsB (c.toNat : Int) = true then 1 + (r.takeWhile goesC).length else (decL (c :: r)).2
/-- The document's reading. -/
def lexD : Nat → List UInt8 → Nat → List Tok → Nat → List Tok × Int × Int
  | 0, _, _, acc, _ => (acc, 0, 0)
  | _ + 1, [], _, acc, _ => (acc, 0, 0)
  | f + 1, c :: r, a, acc, line =>
    if blankB (c.toNat : Int) = true then lexD f r (a + 1) acc line
    else if c.toNat = 35 then lexD f (r.dropWhile nlC) (a + 1 + (r.takeWhile nlC).length) acc line
    else
      if (if (readP (Bq ((c :: r).take (tokLen (c :: r))))).2 = 0 ∧ acc.length = 16384 then 3 else (readP (Bq ((c :: r).take (tokLen (c :: r))))).2) ≠ 0 then
        ([], (a : Int), if (readP (Bq ((c :: r).take (tokLen (c :: r))))).2 = 0 ∧ acc.length = 16384 then 3 else (readP (Bq ((c :: r).take (tokLen (c :: r))))).2)
      else lexD f ((c :: r).drop (tokLen (c :: r))) (a + tokLen (c :: r)) (acc ++ [{ (readP (Bq ((c :: r).take (tokLen (c :: r))))).1 with at_ := a, line := line }])
        (if (readP (Bq ((c :: r).take (tokLen (c :: r))))).1.kind = 3 then line + 1 else line)

/-! ## The machine -/
theorem mach_fuel (s : ByteArray) : ∀ (f f' pos : Nat) (fr : Int) (run rem : Bool), s.size < f + pos → s.size < f' + pos → pos ≤ s.size → mach s f pos fr run rem = mach s f' pos fr run rem := by
  intro f
  induction f with
  | zero => intro f' pos fr run rem h _ hp; omega
  | succ f ih =>
    intro f' pos fr run rem h h' hp
    obtain ⟨f', rfl⟩ : ∃ g, f' = g + 1 := ⟨f' - 1, by omega⟩
    by_cases hlt : pos < s.size
    · have h1 := decode_pos s pos
      have h2 := decode_le s pos hlt
      simp only [mach, if_pos hlt]
      rw [ih f' (pos + (Utf8.decode s pos).2) fr run rem (by omega) (by omega) h2]
      rw [ih f' (pos + (Utf8.decode s pos).2) _ _ _ (by omega) (by omega) h2]
    · simp only [mach, if_neg hlt]
def M (s : ByteArray) (pos : Nat) (fr : Int) (run rem : Bool) : List (Nat × Nat) := mach s (s.size + 1) pos fr run rem
theorem M_end (s : ByteArray) (fr : Int) (run rem : Bool) : M s s.size fr run rem = if 0 ≤ fr then [(fr.toNat, s.size)] else [] := by
  unfold M
  rw [mach_end s _ _ fr run rem (by omega)]
theorem M_go (s : ByteArray) (pos : Nat) (fr : Int) (run rem : Bool) (r k : Nat) (hd : Utf8.decode s pos = (r, k)) (hp : pos < s.size) (hg : (run && goesOnB (r : Int)) = true) :
    M s pos fr run rem = M s (pos + k) fr run rem := by
  have h1 := decode_pos s pos
  have h2 := decode_le s pos hp
  rw [hd] at h1 h2
  unfold M
  rw [mach_go s s.size pos fr run rem r k (by rw [hd]) (by rw [hd]) hp hg]
  exact mach_fuel s _ _ _ _ _ _ (by simp only at h1; omega) (by omega) h2
theorem M_new (s : ByteArray) (pos : Nat) (fr : Int) (run rem : Bool) (r k : Nat) (hd : Utf8.decode s pos = (r, k)) (hp : pos < s.size) (hg : (run && goesOnB (r : Int)) = false)
    (b bl e35 e10 : Bool) (hb : beginsB (r : Int) = b) (hbl : blankB (r : Int) = bl) (h35 : decide ((r : Int) = 35) = e35) (h10 : decide ((r : Int) = 10) = e10) :
    M s pos fr run rem = (if 0 ≤ fr then [(fr.toNat, pos)] else []) ++
      M s (pos + k) (if (!(e35 || (rem && !e10)) && !bl) = true then pos else -1) (!(e35 || (rem && !e10)) && b) (e35 || (rem && !e10)) := by
  have h1 := decode_pos s pos
  have h2 := decode_le s pos hp
  rw [hd] at h1 h2
  unfold M
  rw [mach_new s s.size pos fr run rem r k (by rw [hd]) (by rw [hd]) hp hg b bl e35 e10 hb hbl h35 h10]
  rw [mach_fuel s s.size (s.size + 1) (pos + k) _ _ _ (by simp only at h1; omega) (by omega) h2]
theorem goesOn_false (b : Bool) : (false && b) = false := rfl
/-- Where no run goes on, what is open is a piece, and the rest is as from a fresh start. -/
theorem M_shut (s : ByteArray) (pos : Nat) (fr : Int) (run rem : Bool) (hp : pos ≤ s.size) (hg : pos < s.size → (run && goesOnB ((Utf8.decode s pos).1 : Int)) = false) :
    M s pos fr run rem = (if 0 ≤ fr then [(fr.toNat, pos)] else []) ++ M s pos (-1) false rem := by
  by_cases h : pos < s.size
  · rw [M_new s pos fr run rem _ _ rfl h (hg h) _ _ _ _ rfl rfl rfl rfl, M_new s pos (-1) false rem _ _ rfl h rfl _ _ _ _ rfl rfl rfl rfl]
    rw [if_neg (show ¬ (0 : Int) ≤ -1 by omega), List.nil_append]
  · have : pos = s.size := by omega
    subst this
    rw [M_end, M_end, if_neg (show ¬ (0 : Int) ≤ -1 by omega), List.append_nil]

theorem drop_cons (s : ByteArray) (pos : Nat) (h : pos < s.size) : ∃ c, s.data.toList.drop pos = c :: s.data.toList.drop (pos + 1) :=
  ⟨s.data.toList[pos]'(by simpa using h), List.drop_eq_getElem_cons (by simpa using h)⟩
theorem takeWhile_skip (p : UInt8 → Bool) : ∀ (l : List UInt8) (k : Nat), k ≤ l.length → (∀ j, j < k → p (l.getD j 0) = true) → (l.takeWhile p).length = k + ((l.drop k).takeWhile p).length := by
  intro l k
  induction k generalizing l with
  | zero => intro _ _; simp
  | succ k ih =>
    intro hk h
    cases l with
    | nil => simp at hk
    | cons c r =>
      have h0 : p c = true := h 0 (by omega)
      rw [List.takeWhile_cons, h0]
      simp only [if_true, List.length_cons, List.drop_succ_cons]
      rw [ih r (by simpa using hk) (fun j hj => by simpa using h (j + 1) (by omega))]
      omega
theorem beginsB_lt (r : Int) (h : beginsB r = true) : 48 ≤ r ∧ r < 128 := by
  unfold beginsB letterB digitB at h
  simp only [Bool.or_eq_true, decide_eq_true_eq] at h
  omega
theorem goesOnB_lt (r : Int) (h : goesOnB r = true) : 46 ≤ r ∧ r < 128 := by
  unfold goesOnB at h
  simp only [Bool.or_eq_true, decide_eq_true_eq] at h
  rcases h with h | h
  · have := beginsB_lt r h; omega
  · omega
theorem blankB_lt (r : Int) (h : blankB r = true) : r < 128 := by
  unfold blankB at h
  simp only [decide_eq_true_eq] at h
  omega
theorem nlC_big {c : UInt8} (h : 128 ≤ c.toNat) : nlC c = true := decide_eq_true (by omega)

/-- In a remark: on to its line's end. -/
theorem M_remark (s : ByteArray) : ∀ (g pos : Nat), pos ≤ s.size → s.size - pos < g → M s pos (-1) false true = M s (pos + ((s.data.toList.drop pos).takeWhile nlC).length) (-1) false false := by
  intro g
  induction g with
  | zero => intro pos _ h; omega
  | succ g ih =>
    intro pos hp hg
    by_cases h : pos < s.size
    · obtain ⟨c, hc⟩ := drop_cons s pos h
      have hd := dec_drop s pos
      have h1 := decode_pos s pos
      have h2 := decode_le s pos h
      by_cases h10 : c.toNat = 10
      · have e : ((s.data.toList.drop pos).takeWhile nlC).length = 0 := by
          rw [hc, List.takeWhile_cons]
          simp [nlC, h10]
        rw [e, Nat.add_zero]
        rw [hc, decL_ascii c _ (by omega), h10] at hd
        rw [M_new s pos (-1) false true 10 1 hd h rfl _ _ _ _ rfl rfl rfl rfl, M_new s pos (-1) false false 10 1 hd h rfl _ _ _ _ rfl rfl rfl rfl]
        rfl
      · obtain ⟨r, k, hrk⟩ : ∃ r k, Utf8.decode s pos = (r, k) := ⟨_, _, rfl⟩
        have hr : (r : Int) ≠ 10 := by
          rcases Nat.lt_or_ge c.toNat 128 with hlt | hge
          · rw [hc, decL_ascii c _ hlt, hrk] at hd
            have : r = c.toNat := congrArg Prod.fst hd
            omega
          · have := decL_big c (s.data.toList.drop (pos + 1)) hge
            rw [← hc, ← hd, hrk] at this
            have : 128 ≤ r := this
            omega
        rw [hrk] at h1 h2
        have hk : k = (decL (s.data.toList.drop pos)).2 := by rw [← hd, hrk]
        rw [M_new s pos (-1) false true r k hrk h rfl _ _ _ false rfl rfl rfl (decide_eq_false hr)]
        simp only [Bool.true_and, Bool.not_false, Bool.or_true, Bool.not_true, Bool.false_and]
        rw [if_neg (show ¬ (0 : Int) ≤ -1 by omega), List.nil_append, if_neg (by decide)]
        have h1' : 1 ≤ k := h1
        have h2' : pos + k ≤ s.size := h2
        rw [ih (pos + k) h2' (by omega)]
        have hl : (s.data.toList.drop pos).length = s.size - pos := by simp
        have := takeWhile_skip nlC (s.data.toList.drop pos) k (by omega) (fun j hj => by
          rcases Nat.eq_zero_or_pos j with rfl | h0
          · rw [hc]; exact decide_eq_true (by simpa using h10)
          · exact nlC_big (decL_cont _ j h0 (by omega)))
        rw [this, List.drop_drop, Nat.add_assoc]
    · have : s.data.toList.drop pos = [] := List.drop_of_length_le (by simp; omega)
      rw [this]
      have : pos = s.size := by omega
      subst this
      simp only [List.takeWhile_nil, List.length_nil, Nat.add_zero]
      rw [M_end, M_end]
/-- In a run: on to its end. -/
theorem M_run (s : ByteArray) (fr : Nat) : ∀ (g pos : Nat), pos ≤ s.size → s.size - pos < g → M s pos (fr : Int) true false = (fr, pos + ((s.data.toList.drop pos).takeWhile goesC).length) :: M s (pos + ((s.data.toList.drop pos).takeWhile goesC).length) (-1) false false := by
  intro g
  induction g with
  | zero => intro pos _ h; omega
  | succ g ih =>
    intro pos hp hg
    by_cases h : pos < s.size
    · obtain ⟨c, hc⟩ := drop_cons s pos h
      have hd := dec_drop s pos
      by_cases hgo : goesC c = true
      · have hlt := goesOnB_lt _ hgo
        rw [hc, decL_ascii c _ (by omega)] at hd
        rw [M_go s pos _ true false _ _ hd h (by simpa [goesC] using hgo), ih (pos + 1) (by omega) (by omega)]
        rw [hc, List.takeWhile_cons, if_pos hgo, List.length_cons]
        rw [show pos + (((s.data.toList.drop (pos + 1)).takeWhile goesC).length + 1) = pos + 1 + ((s.data.toList.drop (pos + 1)).takeWhile goesC).length by omega]
      · have e : ((s.data.toList.drop pos).takeWhile goesC).length = 0 := by
          rw [hc, List.takeWhile_cons, if_neg hgo]; rfl
        rw [e, Nat.add_zero, M_shut s pos _ true false hp (fun _ => ?_)]
        · rw [if_pos (by omega)]; rfl
        · rw [Bool.true_and, hd, hc]
          rcases Nat.lt_or_ge c.toNat 128 with hlt | hge
          · rw [decL_ascii c _ hlt]; simpa [goesC] using hgo
          · have := decL_big c (s.data.toList.drop (pos + 1)) hge
            cases hh : goesOnB ((decL (c :: s.data.toList.drop (pos + 1))).1 : Int)
            · rfl
            · have := goesOnB_lt _ hh; omega
    · have e : s.data.toList.drop pos = [] := List.drop_of_length_le (by simp; omega)
      rw [e]
      have : pos = s.size := by omega
      subst this
      simp only [List.takeWhile_nil, List.length_nil, Nat.add_zero]
      rw [M_end, M_end, if_pos (by omega), if_neg (by omega)]
      rfl

theorem dropWhile_drop (p : UInt8 → Bool) (l : List UInt8) : l.dropWhile p = l.drop (l.takeWhile p).length := by
  induction l with
  | nil => rfl
  | cons c r ih =>
    rw [List.dropWhile_cons, List.takeWhile_cons]
    by_cases h : p c = true
    · rw [if_pos h, if_pos h, List.length_cons, List.drop_succ_cons, ih]
    · rw [if_neg h, if_neg h]; rfl
theorem takeWhile_le (p : UInt8 → Bool) (l : List UInt8) : (l.takeWhile p).length ≤ l.length := (List.takeWhile_prefix p).length_le

set_option maxHeartbeats 1000000 in
theorem lexR_mach (s : ByteArray) : ∀ (g pos : Nat), pos ≤ s.size → s.size - pos < g → ∀ acc line, lexR s (M s pos (-1) false false) acc line = lexD g (s.data.toList.drop pos) pos acc line := by
  intro g
  induction g with
  | zero => intro pos _ h; omega
  | succ g ih =>
    intro pos hp hg acc line
    by_cases h : pos < s.size
    · obtain ⟨c, hc⟩ := drop_cons s pos h
      have hd := dec_drop s pos
      have h1 := decode_pos s pos
      have h2 := decode_le s pos h
      obtain ⟨R, hR⟩ : ∃ R, s.data.toList.drop (pos + 1) = R := ⟨_, rfl⟩
      have hsz : (s.data.toList.drop pos).length = s.size - pos := by simp
      -- a token's piece
      have tok : ∀ n, 1 ≤ n → pos + n ≤ s.size → tokLen (c :: R) = n → blankB (c.toNat : Int) = false → c.toNat ≠ 35 →
          lexR s ((pos, pos + n) :: M s (pos + n) (-1) false false) acc line = lexD (g + 1) (c :: R) pos acc line := by
        intro n hn hpn htl hbl h35
        have hpc : pieceB s (pos, pos + n) = Bq ((c :: R).take n) := by
          unfold pieceB
          rw [extract_Bq, hc, hR]
          congr 2
          omega
        have hdn : (c :: R).drop n = s.data.toList.drop (pos + n) := by rw [← hR, ← hc, List.drop_drop]
        rw [lexD, if_neg (by rw [hbl]; decide), if_neg h35, htl, lexR]
        simp only [errAt, tokAt, hpc]
        rw [hdn, ih (pos + n) hpn (by omega)]
      rw [hc, hR] at hd ⊢
      by_cases hbl : blankB (c.toNat : Int) = true
      · have hlt := blankB_lt _ hbl
        rw [decL_ascii c _ (by omega)] at hd
        have n35 : decide ((c.toNat : Int) = 35) = false := by
          unfold blankB at hbl
          simp only [decide_eq_true_eq] at hbl
          exact decide_eq_false (by omega)
        have hnb : beginsB (c.toNat : Int) = false := by
          cases hb : beginsB (c.toNat : Int)
          · rfl
          · have := beginsB_lt _ hb
            unfold blankB at hbl
            simp only [decide_eq_true_eq] at hbl
            omega
        rw [M_new s pos (-1) false false _ _ hd h rfl false true false _ hnb hbl n35 rfl]
        simp only [lexD]
        rw [if_pos hbl, if_neg (show ¬ (0 : Int) ≤ -1 by omega), List.nil_append]
        simp only [Bool.false_and, Bool.or_self, Bool.not_false, Bool.not_true, Bool.true_and]
        rw [if_neg (by decide), ih (pos + 1) (by omega) (by omega), hR]
      · have hbl' : blankB (c.toNat : Int) = false := by simpa using hbl
        by_cases h35 : c.toNat = 35
        · rw [decL_ascii c _ (by omega)] at hd
          have e35 : decide ((c.toNat : Int) = 35) = true := decide_eq_true (by omega)
          rw [M_new s pos (-1) false false _ _ hd h rfl _ _ true _ rfl rfl e35 rfl]
          simp only [lexD]
          rw [if_neg hbl, if_pos h35, if_neg (show ¬ (0 : Int) ≤ -1 by omega), List.nil_append]
          simp only [Bool.true_or, Bool.not_true, Bool.false_and]
          rw [if_neg (by decide), M_remark s (g + 1) (pos + 1) (by omega) (by omega), hR]
          have hle := takeWhile_le nlC R
          have hRl : R.length = s.size - (pos + 1) := by rw [← hR]; simp
          rw [ih _ (by omega) (by omega), dropWhile_drop, ← hR, List.drop_drop]
        · have n35 : decide ((c.toNat : Int) = 35) = false := decide_eq_false (by omega)
          by_cases hb : beginsB (c.toNat : Int) = true
          · have hlt := beginsB_lt _ hb
            rw [decL_ascii c _ (by omega)] at hd
            rw [M_new s pos (-1) false false _ _ hd h rfl true false false _ hb hbl' n35 rfl]
            simp only [Bool.false_and, Bool.or_self, Bool.not_false, Bool.and_self, if_true]
            rw [if_neg (show ¬ (0 : Int) ≤ -1 by omega), List.nil_append, M_run s pos (g + 1) (pos + 1) (by omega) (by omega), hR]
            have hle := takeWhile_le goesC R
            have hRl : R.length = s.size - (pos + 1) := by rw [← hR]; simp
            have := tok (1 + (R.takeWhile goesC).length) (by omega) (by omega) (by simp only [tokLen]; rw [if_pos hb]) hbl' h35
            rw [← Nat.add_assoc] at this
            exact this
          · have hb' : beginsB (c.toNat : Int) = false := by simpa using hb
            obtain ⟨r, k, hrk⟩ : ∃ r k, Utf8.decode s pos = (r, k) := ⟨_, _, rfl⟩
            rw [hrk] at hd h1 h2
            have hrs : blankB (r : Int) = false ∧ beginsB (r : Int) = false ∧ decide ((r : Int) = 35) = false := by
              rcases Nat.lt_or_ge c.toNat 128 with hlt | hge
              · rw [decL_ascii c _ hlt] at hd
                have : r = c.toNat := congrArg Prod.fst hd
                subst this
                exact ⟨hbl', hb', n35⟩
              · have hbig := decL_big c R hge
                rw [← hd] at hbig
                have hbig : 128 ≤ r := hbig
                refine ⟨?_, ?_, decide_eq_false (by omega)⟩
                · cases hh : blankB (r : Int)
                  · rfl
                  · have := blankB_lt _ hh; omega
                · cases hh : beginsB (r : Int)
                  · rfl
                  · have := beginsB_lt _ hh; omega
            rw [M_new s pos (-1) false false r k hrk h rfl false false false _ hrs.2.1 hrs.1 hrs.2.2 rfl]
            simp only [Bool.false_and, Bool.or_self, Bool.not_false, Bool.and_self, Bool.and_false, if_true]
            have h1' : 1 ≤ k := h1
            have h2' : pos + k ≤ s.size := h2
            rw [if_neg (show ¬ (0 : Int) ≤ -1 by omega), List.nil_append, M_shut s (pos + k) (pos : Int) false false h2' (fun _ => rfl), if_pos (by omega)]
            have htl : tokLen (c :: R) = k := by
              simp only [tokLen]
              rw [if_neg hb, ← hd]
            exact tok k h1' h2' htl hbl' h35
    · have e : s.data.toList.drop pos = [] := List.drop_of_length_le (by simp; omega)
      rw [e]
      have : pos = s.size := by omega
      subst this
      rw [M_end, if_neg (by omega)]
      rfl
theorem lexP_eq (s : ByteArray) (hs : s.size ≤ 65536) : lexP s = lexD (s.size + 1) s.data.toList 0 [] 0 := by
  unfold lexP
  rw [if_neg (by omega)]
  exact lexR_mach s (s.size + 1) 0 (by omega) (by omega) [] 0

end Go.Proofs.YtonihjijienigaaDoor
