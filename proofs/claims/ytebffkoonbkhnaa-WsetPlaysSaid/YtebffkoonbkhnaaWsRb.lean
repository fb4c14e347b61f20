/- The document's set (layer 8): All. -/
import Derived.Test.YtebffkoonbkhnaaWsRa
import Derived.Test.YtebffkoonbkhnaaWsMm
namespace Go.Proofs.Ytebffkoonbkhnaa
open Go.RowKit Go.Maps

theorem look_any (ps : List (Int × Int)) (a : Int) : (look (ents ps) a).isSome = ps.any (fun p => p.1 == a) := by
  induction ps using snoc_ind with
  | h0 => rfl
  | h1 qs p ih =>
    rw [look_put, List.any_append]
    by_cases e : a = p.1
    · rw [if_pos e]; simp [e]
    · rw [if_neg e, ih]
      have : (p.1 == a) = false := by simpa using fun h => e h.symm
      simp [this]
theorem any_next2 {ps : List (Int × Int)} {j : Nat} {p : Int × Int} (a : Int) (h : ps[j]? = some p) : (ps.take (j + 1)).any (fun p => p.1 == a) = ((ps.take j).any (fun p => p.1 == a) || p.1 == a) := by
  rw [take_at h, List.any_append]
  simp
/-- Entries of so many keys, with what they become in the end. -/
def outL (ps : List (Int × Int)) (k : Nat) : List (Int × Int) := (keys (ps.take k)).map fun a => (a, (look (ents ps) a).getD 0)
theorem outL_all (ps : List (Int × Int)) : outL ps ps.length = ents ps := by
  unfold outL
  rw [List.take_of_length_le (Nat.le_refl _)]
  exact (ents_keys ps).symm
theorem outL_next {ps : List (Int × Int)} {j : Nat} {p : Int × Int} (h : ps[j]? = some p) : outL ps (j + 1) = if (ps.take j).any (fun q => q.1 == p.1) then outL ps j else outL ps j ++ [(p.1, (look (ents ps) p.1).getD 0)] := by
  unfold outL
  rw [take_at h, keys_put, look_any]
  split
  · rfl
  · rw [List.map_append]; rfl
theorem outL_len (ps : List (Int × Int)) (k : Nat) : (outL ps k).length ≤ ps.length := by
  unfold outL
  rw [List.length_map, keys, List.length_map]
  have := ents_len (ps.take k)
  rw [List.length_take] at this
  omega

/-- The head of the outer loop. -/
def AlRel (w0 : World) (base : Nat) (cs : Array Value) (ps : List (Int × Int)) (ov i : Value) (wr : World) : Prop :=
  ∃ (W : World) (k : Nat), W = wr ∧ i = .int .i64 k ∧ k ≤ ps.length ∧ (Kept (fun _ => False) w0 W ∧ Blk W base 80 cs) ∧ W.ownsRow 0 129 2 ov (outL ps k).length (entL (outL ps k)) ∧ ∀ z, ov.ownBlock = some z → base ≤ z
/-- The head of the inner loop. -/
def AfRel (w0 : World) (ps : List (Int × Int)) (a : Int) (j : Nat) (f i : Value) (wr : World) : Prop :=
  ∃ (W : World) (k : Nat), W = wr ∧ i = .int .i64 k ∧ k ≤ j ∧ f = .bool (!((ps.take k).any (fun p => p.1 == a))) ∧ Kept (fun _ => False) w0 W

set_option maxRecDepth 100000 in
set_option maxHeartbeats 4000000 in
theorem rAll_calls {w : World} {pv : Value} {n : Nat} {ps : List (Int × Int)} (h : RowP w pv n ps) (hn : n ≤ 60000) (room : Int) :
    Calls Try.prog 48 #[.agg #[.int .i64 room, pv]] w fun e w' => ∃ v, e = .returned v ∧ w'.ownsRow 0 129 2 v (ents ps).length (entL (ents ps)) ∧ (∀ z, v.ownBlock = some z → w.heap.size ≤ z) ∧ Kept (fun _ => False) w w' := by
  obtain ⟨hl, ho⟩ := h
  obtain ⟨A, c, rfl⟩ := own_form ho
  have HL := Lib.hid hl
  have HR0 : Hid (RowP w (.slice A n c) n ps) := Lib.hid ⟨hl, ho⟩
  have HB : Hid (Blk (w.alloc (.cells #[.int .i64 room, .slice A n c] 80)) w.heap.size 80 #[.int .i64 room, .slice A n c]) := Lib.hid (Blk.new _ _ _)
  have HK0 : Hid (Kept (fun _ => False) w (w.alloc (.cells #[.int .i64 room, .slice A n c] 80))) := Lib.hid ((Kept.refl _ _).alloc _)
  clear hl ho
  go_enter Try.func48, Try.ntmps48
  go_wp2_with fail
  have HW0 : Hid (Blk ((w.alloc (.cells #[.int .i64 room, .slice A n c] 80)).alloc (.cells #[] 129)) w.heap.size 80 #[.int .i64 room, .slice A n c]) := Lib.hid (HB.out.alloc _)
  have HKK : Hid (Kept (fun _ => False) w ((w.alloc (.cells #[.int .i64 room, .slice A n c] 80)).alloc (.cells #[] 129))) := Lib.hid (HK0.out.alloc _)
  have HO0 : Hid (((w.alloc (.cells #[.int .i64 room, .slice A n c] 80)).alloc (.cells #[] 129)).ownsRow 0 129 2 (.slice (some ⟨w.heap.size + 1, 0, none⟩) 0 0) 0 []) := Lib.hid (by
    have hrow := own_base (own_empty (w.alloc (.cells #[.int .i64 room, .slice A n c] 80)) 129 2) (base' := 0) (fun _ _ => Nat.zero_le _)
    have hs1 : (w.alloc (.cells #[.int .i64 room, .slice A n c] 80)).heap.size = w.heap.size + 1 := by simp
    rw [hs1] at hrow
    exact hrow)
  obtain ⟨i0, hi0, hz0, hz1, hz2⟩ := info_parts' infoRe
  clear HB HK0
  generalize ((w.alloc (.cells #[.int .i64 room, .slice A n c] 80)).alloc (.cells #[] 129)) = W0 at *
  go_loopw [3, 4] (fun ov i wr => AlRel w w.heap.size #[.int .i64 room, .slice A n c] ps ov i wr) (fun _ i _ => n - (intOf i).toNat)
  case atStart => exact ⟨_, 0, rfl, rfl, Nat.zero_le _, ⟨HKK.out, HW0.out⟩, HO0.out, fun z e => by simp [Value.ownBlock] at e; omega⟩
  case round =>
    obtain ⟨W, k, rfl, rfl, hk, ⟨hK, hW⟩, hO, hz⟩ := hrel
    rw [HL.out] at hk
    have b1 : W.cell? ⟨w.heap.size, 1, none⟩ = some (.slice A n c) := hW.cell 1
    have hlen := outL_len ps k
    rw [HL.out] at hlen
    obtain ⟨OA, OC, rfl⟩ := own_form hO
    obtain ⟨q, hq⟩ : ∃ q, (outL ps k).length = q := ⟨_, rfl⟩
    rw [hq] at hO hlen hz
    by_cases hlt : k < n
    · obtain ⟨⟨x, y⟩, he⟩ : ∃ e, ps[k]? = some e := ⟨_, List.getElem?_eq_getElem (by rw [HL.out]; omega)⟩
      have hrow := (HR0.out.keep hK).2
      obtain ⟨g, _, ea, _⟩ := own_some hrow (by omega)
      injection ea with ea _ ea3
      subst ea ea3
      have d : W.cell? ⟨g, k * 2, none⟩ = some (.int .i64 x) ∧ W.cell? ⟨g, k * 2 + 1, none⟩ = some (.int .u64 y) := ent_cells hrow he (by omega)
      obtain ⟨d0, _⟩ := d
      have HNx := Lib.hid (outL_next he)
      simp only at HNx
      have HK := Lib.hid hK
      have HW := Lib.hid hW
      have HO := Lib.hid hO
      have HZ := Lib.hid hz
      have HQ := Lib.hid hq
      rw [hq]
      clear hK hW hO hz he hrow hq
      go_wp2_with fail
      go_loopw [6, 7] (fun f i wr => AfRel W ps x k f i wr) (fun _ i _ => k - (intOf i).toNat)
      case atStart => exact ⟨_, 0, rfl, rfl, Nat.zero_le _, rfl, Kept.refl _ _⟩
      case round =>
        obtain ⟨V, j, rfl, rfl, hj, rfl, hV⟩ := hrel
        have c1 : V.cell? ⟨w.heap.size, 1, none⟩ = some (.slice (some ⟨g, 0, none⟩) n c) := hV.cell_some (fun h => h) b1
        by_cases hjk : j < k
        · obtain ⟨⟨x2, y2⟩, he2⟩ : ∃ e, ps[j]? = some e := ⟨_, List.getElem?_eq_getElem (by rw [HL.out]; omega)⟩
          have hrow := (HR0.out.keep (HK.out.trans hV)).2
          have d : V.cell? ⟨g, j * 2, none⟩ = some (.int .i64 x2) ∧ V.cell? ⟨g, j * 2 + 1, none⟩ = some (.int .u64 y2) := ent_cells hrow he2 (by omega)
          obtain ⟨e0, _⟩ := d
          have HA2 := Lib.hid (any_next2 x he2)
          have HV := Lib.hid hV
          obtain ⟨bo, hbo⟩ : ∃ bo, (ps.take j).any (fun p => p.1 == x) = bo := ⟨_, rfl⟩
          rw [hbo] at HA2 ⊢
          have hjn : j < n := by omega
          clear hV he2 hrow hbo b1 d0
          cases bo with
          | true =>
            go_wp2_with fail
            first | exact ⟨⟨_, j + 1, rfl, by simp, hjk, by rw [HA2.out]; rfl, HV.out⟩, by simp [intOf]; omega⟩ | (go_roundw; (case rel => exact ⟨_, j + 1, rfl, by simp, hjk, by rw [HA2.out]; rfl, HV.out⟩); (case measure => simp [intOf]; omega))
          | false =>
            by_cases hx : x2 = x
            · have hx1 : (x2 == x) = true := by simpa using hx
              have hx2 : (x2 != x) = false := by simp [hx]
              have HX := Lib.hid hx1
              clear hx hx1
              go_wp2_with fail
              first | exact ⟨⟨_, j + 1, rfl, by simp, hjk, by rw [HA2.out, HX.out]; rfl, HV.out⟩, by simp [intOf]; omega⟩ | (go_roundw; (case rel => exact ⟨_, j + 1, rfl, by simp, hjk, by rw [HA2.out, HX.out]; rfl, HV.out⟩); (case measure => simp [intOf]; omega))
            · have hx1 : (x2 == x) = false := by simpa using hx
              have hx2 : (x2 != x) = true := by simp [hx]
              have HX := Lib.hid hx1
              clear hx hx1
              go_wp2_with fail
              first | exact ⟨⟨_, j + 1, rfl, by simp, hjk, by rw [HA2.out, HX.out]; rfl, HV.out⟩, by simp [intOf]; omega⟩ | (go_roundw; (case rel => exact ⟨_, j + 1, rfl, by simp, hjk, by rw [HA2.out, HX.out]; rfl, HV.out⟩); (case measure => simp [intOf]; omega))
        · obtain rfl : k = j := by omega
          obtain ⟨bo, hbo⟩ : ∃ bo, (ps.take k).any (fun p => p.1 == x) = bo := ⟨_, rfl⟩
          rw [hbo] at HNx ⊢
          have HV := Lib.hid hV
          clear hV hbo b1 d0
          cases bo with
          | true =>
            have HR2 : Hid (outL ps (k + 1) = outL ps k) := Lib.hid (by rw [HNx.out]; rfl)
            go_wp2_with fail
            first | exact ⟨⟨_, k + 1, rfl, by simp, by rw [HL.out]; omega, ⟨HK.out.trans HV.out, HV.out.blk HW.out (fun h => h)⟩, by rw [HR2.out, HQ.out]; exact HV.out.own HO.out (fun _ _ h => h), HZ.out⟩, by simp [intOf]; omega⟩ | (go_roundw; (case rel => exact ⟨_, k + 1, rfl, by simp, by rw [HL.out]; omega, ⟨HK.out.trans HV.out, HV.out.blk HW.out (fun h => h)⟩, by rw [HR2.out, HQ.out]; exact HV.out.own HO.out (fun _ _ h => h), HZ.out⟩); (case measure => simp [intOf]; omega))
          | false =>
            obtain ⟨v, hv⟩ : ∃ v, (look (ents ps) x).getD 0 = v := ⟨_, rfl⟩
            have HR2 : Hid (outL ps (k + 1) = outL ps k ++ [(x, v)]) := Lib.hid (by rw [HNx.out, ← hv]; rfl)
            obtain ⟨ok, hok⟩ : ∃ ok, getV ps x = .tuple #[.int .u64 v, .bool ok] := ⟨(look (ents ps) x).isSome, by unfold getV; rw [hv]⟩
            have HGV := Lib.hid hok
            have c0 : V.cell? ⟨w.heap.size, 0, none⟩ = some (.int .i64 room) := (HV.out.blk HW.out (fun h => h)).cell 0
            have HP2 := Lib.hid (HR0.out.keep (HK.out.trans HV.out))
            have HO2 := Lib.hid (HV.out.own HO.out (fun _ _ h => h))
            clear hv hok
            go_wp2_with (first
              | (go_at_call 63; (refine (rGet_calls HP2.out hn room x).mono ?_); rw [HGV.out]; rintro e w3 ⟨rfl, hk3⟩; have HO3 := Lib.hid (hk3.own HO2.out (fun _ _ h => h)); have HK3 := Lib.hid ((HK.out.trans HV.out).trans hk3); have HW3 := Lib.hid (hk3.blk (HV.out.blk HW.out (fun h => h)) (fun h => h)); clear hk3)
              | (at_builtin; (refine wpList_append_own_at _ rfl (.tmp 47) (.tmp 51) 78 rfl 0 129 i0 _ 2 16 Try.underlying78 hi0 hz0 hz1 hz2 rfl (by decide) (.slice OA q OC) q (entL (outL ps k)) rfl (HO3.out.alloc _) ⟨w3.heap.size, 0, none⟩ 1 1 [.int .i64 x, .int .u64 v] rfl rfl (news_at _ #[.int .i64 x, .int .u64 v] _ _ (by first | simp | rfl | omega)) (by simp [Value.oneCell']) (by unfold maxLen; omega) (by omega) (Nat.zero_le _) ?_; intro v1 w6 hown1 hgrow _ hat; obtain ⟨VA1, VC1, rfl⟩ := own_form hown1)))
            have hk6 : Kept (fun z => some z = (Value.slice OA q OC).ownBlock) w3 w6 := ((Kept.refl _ w3).alloc _).trans (Kept.grown hgrow)
            have hsz : (w3.alloc (.cells #[.int .i64 x, .int .u64 v] 129)).heap.size = w3.heap.size + 1 := by simp
            have HK6 : Hid (Kept (fun _ => False) w w6) := Lib.hid (HK3.out.trans' hk6 (fun z hz e => by have := HZ.out z e.symm; omega))
            have HW6 := Lib.hid (hk6.blk HW3.out (own_blk_ne HO3.out HW3.out (by decide)))
            have HO6 : Hid (w6.ownsRow 0 129 2 (.slice VA1 (q + 1) VC1) (outL ps (k + 1)).length (entL (outL ps (k + 1)))) := Lib.hid (by rw [HR2.out, List.length_append, HQ.out, entL_snoc]; exact hown1)
            have HZ6 : Hid (∀ z, (Value.slice VA1 (q + 1) VC1).ownBlock = some z → w.heap.size ≤ z) := Lib.hid (fun z e => by
              rcases hat with h' | h'
              · rw [h'] at e; exact HZ.out z e
              · rw [h'] at e; injection e with e; have := HK3.out.size; omega)
            clear hk6 hown1 hgrow hat
            first | exact ⟨⟨_, k + 1, rfl, by simp, by rw [HL.out]; omega, ⟨HK6.out, HW6.out⟩, HO6.out, HZ6.out⟩, by simp [intOf]; omega⟩ | (go_roundw; (case rel => exact ⟨_, k + 1, rfl, by simp, by rw [HL.out]; omega, ⟨HK6.out, HW6.out⟩, HO6.out, HZ6.out⟩); (case measure => simp [intOf]; omega))
    · obtain rfl : n = k := by omega
      have HK := Lib.hid hK
      have HOe : Hid (W.ownsRow 0 129 2 (.slice OA q OC) (ents ps).length (entL (ents ps))) := Lib.hid (by
        have e := outL_all ps
        rw [HL.out] at e
        rw [e] at hO hq
        rw [hq]
        exact hO)
      have HZ := Lib.hid hz
      rw [hq]
      clear hK hW hO hz hq hlt
      go_wp2_with fail
      go_ret
      exact ⟨_, rfl, HOe.out, HZ.out, HK.out⟩
end Go.Proofs.Ytebffkoonbkhnaa
