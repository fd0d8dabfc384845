/-
  The walk of the statement SlotLays: words are laid one behind the other, a step and an access each, and no other word is touched; what becomes of those that were handed in changes nothing.
-/
import Derived.Test.YtlpaijobcopbnaaSlot5
import Derived.Test.YtlpaijobcopbnaaAppG
namespace Go.Proofs.Ytlpaijobcopbnaa
open Go.RowKit Go.Sort

/-- A memory of N words, the first k of a row laid from a place on. -/
def laidL (f : Nat → Nat) (at_ k N : Nat) : List Nat := (List.range N).map fun i => if at_ ≤ i ∧ i < at_ + k then f (i - at_) else 0
theorem laidL_len (f : Nat → Nat) (at_ k N : Nat) : (laidL f at_ k N).length = N := by simp [laidL]
theorem laidL_zero (f : Nat → Nat) (at_ N : Nat) : laidL f at_ 0 N = List.replicate N 0 := by
  apply List.ext_getElem
  · simp [laidL]
  · intro i h1 h2
    simp only [laidL, List.getElem_map, List.getElem_range, List.getElem_replicate]
    rw [if_neg (by omega)]
theorem laidL_step (f : Nat → Nat) (at_ k N : Nat) : (laidL f at_ k N).set (at_ + k) (f k) = laidL f at_ (k + 1) N := by
  apply List.ext_getElem
  · simp [laidL]
  · intro i h1 h2
    simp only [laidL, List.getElem_set, List.getElem_map, List.getElem_range]
    by_cases h : at_ + k = i
    · subst h; rw [if_pos rfl, if_pos (by omega)]; congr 1; omega
    · rw [if_neg h]
      by_cases h' : at_ ≤ i ∧ i < at_ + k
      · rw [if_pos h', if_pos (by omega)]
      · rw [if_neg h', if_neg (by omega)]
theorem laidL_at (f : Nat → Nat) (at_ k N i : Nat) (h : i < N) : (laidL f at_ k N).getD i 0 = if at_ ≤ i ∧ i < at_ + k then f (i - at_) else 0 := by
  simp [laidL, h]
theorem listOf_at (f : Nat → Nat) (n j : Nat) (h : j < n) : (listOf f n).getD j 0 = f j := by simp [listOf, h]
theorem lays_step {f : Nat → Nat} {g mg mh b at_ k n N : Nat} {kd a : Int} {w : World} (h : Hid (LayV w g mg mh b k ((at_ + k : Nat) : Int) ⟨laidL f at_ k N, k, 0, kd, a⟩ (listOf f n))) (hk : k < n) (hn : n ≤ 100) (hN : at_ + n ≤ N) (hN2 : N ≤ 1000) :
    Calls Try.prog 27 #[.pointer (some ⟨g, 0, none⟩)] w fun e w' => e = .returned (.bool (decide (k + 1 = n))) ∧ LayV w' g mg mh b (k + 1) ((at_ + (k + 1) : Nat) : Int) ⟨laidL f at_ (k + 1) N, k + 1, 0, 2, ((at_ + k : Nat) : Int)⟩ (listOf f n) ∧ Only [g, mg, mh] w w' := by
  refine (lstep_more g mg mh b k _ _ _ w h (by rw [listOf_len]; exact hk) (by rw [listOf_len]; omega) (by omega) (by omega) (show k < 4611686018427387904 by omega) (show (0 : Nat) < 4611686018427387904 by decide)).mono ?_
  rintro e w' ⟨rfl, h1, h2⟩
  rw [listOf_len]
  refine ⟨rfl, ?_, h2⟩
  have hi : inM ⟨laidL f at_ k N, k, 0, kd, a⟩ ((at_ + k : Nat) : Int) = true := by rw [inM_nat]; simp only [laidL_len]; simp; omega
  have e2 : (MSt.begun ⟨laidL f at_ k N, k, 0, kd, a⟩ 2 ((at_ + k : Nat) : Int)).put ((at_ + k : Nat) : Int) ((listOf f n).getD k 0) = ⟨laidL f at_ (k + 1) N, k + 1, 0, 2, ((at_ + k : Nat) : Int)⟩ := by
    unfold MSt.put
    rw [inM_begun, hi, begun_yes hi, listOf_at f n k hk, ← laidL_step]
    rfl
  rw [e2] at h1
  exact h1

/-- The first n cells of a block are words. -/
def Wds (w : World) (b n : Nat) : Prop := ∃ (cur : Array Value), w.heap[b]? = some (.cells cur 35 (0, 0)) ∧ ∀ i, i < n → ∃ y : Nat, cur[i]? = some (.int .u64 (y : Int))
theorem Wds.at {w : World} {b n i : Nat} (h : Wds w b n) (hi : i < n) : ∃ y : Nat, w.cell? ⟨b, i, none⟩ = some (.int .u64 (y : Int)) ∧ w.frozen? ⟨b, i, none⟩ = false := by
  obtain ⟨cur, h1, h2⟩ := h
  obtain ⟨y, hy⟩ := h2 i hi
  exact ⟨y, by rw [cell_of h1, hy], frozen_of h1⟩
theorem Wds.set {w : World} {b n i : Nat} (h : Wds w b n) (x : Nat) : Wds (w.setCell ⟨b, i, none⟩ (.int .u64 (x : Int))) b n := by
  obtain ⟨cur, h1, h2⟩ := h
  refine ⟨_, set_of h1 _, fun j hj => ?_⟩
  obtain ⟨y, hy⟩ := h2 j hj
  by_cases e : i = j
  · subst e
    have := (Array.getElem?_eq_some_iff.1 hy).1
    exact ⟨x, by simp [this]⟩
  · exact ⟨y, by rw [Array.getElem?_setIfInBounds_ne e]; exact hy⟩
theorem WRw.wds {w : World} {b n cap : Nat} {ws : List Nat} (h : WRw w (.slice (some ⟨b, 0, none⟩) n cap) ws) (hn : ws.length = n) : Wds w b n := by
  rcases h.cases with ⟨h', _⟩ | ⟨b', cap', cur, h', hb, h1, h2, h3⟩
  · cases h'
  · cases h'
    refine ⟨cur, hb, fun i hi => ⟨ws.getD i 0, ?_⟩⟩
    have e : cur.toList[i]? = (vals ws)[i]? := by rw [← h3, List.getElem?_take, if_pos hi]
    rw [← Array.getElem?_toList, e]
    simp [vals, hi]
theorem words_news {w : World} {ad : Option Addr} {n : Nat} {f : Nat → Nat} (h : Row64 w ad n f) (x : Addr) (hx : ad = some x) (j : Nat) (u : Value) (hu : (vals (listOf f n))[j]? = some u) : w.cell? (x.add j) = some u := by
  have hj : j < n := by have := (List.getElem?_eq_some_iff.1 hu).1; simpa [vals, listOf] using this
  obtain ⟨b, off, e, _, hc⟩ := h.2 (by omega)
  rw [hx] at e
  cases e
  rw [Addr.add_lit, hc j hj, ← hu]
  simp [vals, listOf, hj]
theorem own_empty (w : World) (T : TypeId) : (w.alloc (.cells #[] T)).ownsRow 0 T 1 (.slice (some ⟨w.heap.size, 0, none⟩) 0 0) 0 [] := World.ownsRow_made (base := 0) (e := T) (size := 1) w #[] 0 (Nat.zero_le _) (Nat.zero_le _) rfl
theorem words_at' {w : World} {b j : Nat} {ys : List Nat} (hw : w.heap[b]? = some (.cells (wordsOf ys) 35 (0, 0))) (hj : j < ys.length) : w.cell? ⟨b, j, none⟩ = some (.int .u64 ((ys.getD j 0 : Nat) : Int)) := by
  rw [cell_of hw]; simp [wordsOf, hj]
theorem below_only {l : List Nat} {w w1 w2 : World} (b : Below w.heap.size w w1) (x : Only l w1 w2) (h : ∀ k ∈ l, w.heap.size ≤ k) : Below w.heap.size w w2 := b.trans (x.below h b.size)
theorem new8 (n : Nat) (w : World) (hn : n ≤ 100000) : Calls Try.prog 18 #[.int .i64 n] w fun e w' => ∃ g h, e = .returned (.pointer (some ⟨g, 0, none⟩)) ∧ MemAt w' g h (MSt.fresh n) ∧ w.heap.size ≤ g ∧ w.heap.size ≤ h ∧ Below w.heap.size w w' := new_nat n n w (.inr (.inl ⟨rfl, by omega⟩))

set_option maxRecDepth 20000 in
set_option maxHeartbeats 4000000 in
theorem lays_few (room at_ n cap : Nat) (ad : Option Addr) (f : Nat → Nat) (w : World) (hroom : room < 256) (hat : at_ < 256) (hn : n ≤ 100) (hr : Hid (Row64 w ad n f)) (hnil : Hid (ad = none → n = 0 ∧ cap = 0)) :
    Calls Try.prog 5 #[.int .u8 room, .int .u8 at_, .slice ad n cap] w fun e w' => e = .returned (.bool true) ∧ Below w.heap.size w w' := by
  obtain ⟨i0, hi, hz0, hz1, hz2⟩ := info_parts info64
  have l1 : (n : Int) ≤ 100 := by omega
  have NW : Hid (∀ w1, Calls Try.prog 18 #[.int .i64 ((at_ : Int) + (n : Int) + (room : Int))] w1 fun e w' => ∃ g h, e = .returned (.pointer (some ⟨g, 0, none⟩)) ∧ MemAt w' g h (MSt.fresh (at_ + n + room)) ∧ w1.heap.size ≤ g ∧ w1.heap.size ≤ h ∧ Below w1.heap.size w1 w') := fun w1 => by
    rw [show (at_ : Int) + (n : Int) + (room : Int) = ((at_ + n + room : Nat) : Int) by omega]
    exact new8 _ w1 (by omega)
  have HN : Hid (at_ + n ≤ at_ + n + room ∧ at_ + n + room ≤ 1000) := by show _ ∧ _; omega
  go_enter Try.func5, Try.ntmps5
  go_wp2_with fail
  refine (speaks8 _).mono ?_
  rintro e w1 ⟨rfl, hb⟩
  have B1 := Lib.hid hb
  clear hb
  go_wp2_with fail
  refine (NW.out _).mono ?_
  rintro e w2 ⟨mg, mh, rfl, m2, hg, hh, hb⟩
  have hg' : w.heap.size ≤ mg := Nat.le_trans B1.out.size hg
  have hh' : w.heap.size ≤ mh := Nat.le_trans B1.out.size hh
  have B2 := Lib.hid (below_two B1.out hb)
  clear hb hg hh NW B1
  generalize hNN : at_ + n + room = N at *
  have HNN := Lib.hid hNN
  clear hNN
  have OE := Lib.hid (own_empty w2 35)
  have R2 := Lib.hid ((hr.out.next B2.out).next (box1 w2 (.cells #[] 35)))
  go_wp2_with (with_reducible refine wpList_append_gen _ rfl (.tmp 32) (.tmp 33) 31 rfl 35 i0 (.int .u64 0) 8 Try.underlying31 hi hz0 hz1 hz2 rfl w2.heap.size 0 0 [] rfl OE.out ad n cap (vals (listOf f n)) rfl hnil.out (by rw [vals_len, listOf_len]) (words_news R2.out) (vals_one _) (by unfold maxLen; omega) (by omega) (w2.heap.size + 1) (by simp) ?_)
  intro ob ocap w3 hown hgrow hat3 hlt3
  have hb3 : Below w2.heap.size w2 w3 := (box1 w2 _).grown hgrow (by simp) (fun k hk => by simp at hk; omega)
  have hob : w2.heap.size ≤ ob := by omega
  have W3 : Hid (WRw w3 (.slice (some ⟨ob, 0, none⟩) n ocap) (listOf f n)) := by
    show WRw _ _ _
    unfold WRw
    rw [listOf_len]
    simpa using hown
  have m3 := Lib.hid (m2.next hb3)
  have hm2 := m2.lt
  have B3 := Lib.hid (below_two B2.out hb3)
  have hbs := hb3.size
  have R3 : Hid (∃ c, Row64 w3 (some ⟨ob, 0, none⟩) n (fun j => (listOf f n).getD j 0) ∧ c = ocap) := by
    obtain ⟨a', c', h1, h2⟩ := W3.out.row (fun x hx => by
      simp [listOf] at hx
      obtain ⟨y, _, rfl⟩ := hx
      exact hr.out.1 y)
    rw [listOf_len] at h1 h2
    cases h1
    exact ⟨_, h2, rfl⟩
  have LL : Hid (listOf (fun j => (listOf f n).getD j 0) n = listOf f n) := by
    show _ = _
    apply List.ext_getElem
    · simp [listOf]
    · intro i h1 h2; simp only [listOf, List.length_map, List.length_range] at h2; simp [listOf, h2]
  have D3 := Lib.hid (W3.out.wds (listOf_len f n))
  clear hown hgrow hat3 hb3 OE R2 m2 B2 W3
  have LY : Hid (∀ c, Calls Try.prog 26 #[.pointer (some ⟨mg, 0, none⟩), .int .i64 at_, .slice (some ⟨ob, 0, none⟩) n c] w3 fun e w' => ∃ g b, e = .returned (.pointer (some ⟨g, 0, none⟩)) ∧ LayV w' g mg mh b 0 at_ (MSt.fresh N) (listOf f n) ∧ w3.heap.size ≤ g ∧ w3.heap.size ≤ b ∧ Below w3.heap.size w3 w') := fun c => by
    have h := lay_any mg mh _ at_ (some ⟨ob, 0, none⟩) n c _ w3 m3.out (R3.out.choose_spec.1) (by omega)
    rw [LL.out] at h
    exact h
  clear R3
  go_wp2_with fail
  refine (LY.out _).mono ?_
  rintro e w4 ⟨g, b, rfl, h4, hg4, hb4, hb⟩
  have L4 := Lib.hid h4
  have D4 : Hid (Wds w4 ob n) := by
    obtain ⟨cur, h1, h2⟩ := D3.out
    exact ⟨cur, (hb.block ob hlt3).trans h1, h2⟩
  have B4 := Lib.hid (below_two B3.out hb)
  have hgw : w.heap.size ≤ g := Nat.le_trans B3.out.size hg4
  have hbw : w.heap.size ≤ b := Nat.le_trans B3.out.size hb4
  have how : w.heap.size ≤ ob := by
    have := B3.out.size
    omega
  have HGL : Hid (∀ k ∈ [g, mg, mh], w.heap.size ≤ k) := fun k hk => by simp at hk; omega
  have hn1 : Hid (∀ k ∈ [g, mg, mh, b], k ∉ [ob]) := fun k hk => by simp at hk ⊢; omega
  clear h4 hb LY D3 B3 m3
  go_wp2_with fail
  go_loopw [42] (fun u wr => ∃ (i : Nat), i ≤ n ∧ u = .int .i64 i ∧ Wds wr ob n ∧ LayV wr g mg mh b 0 at_ (MSt.fresh N) (listOf f n) ∧ Below w.heap.size w wr) (fun u _ => n - (intOf u).toNat)
  case atStart => exact ⟨0, Nat.zero_le _, rfl, D4.out, L4.out, B4.out⟩
  case round =>
    obtain ⟨i, hi1, rfl, hD, hL, hB⟩ := hrel
    have DR := Lib.hid hD
    have LR := Lib.hid hL
    have BR := Lib.hid hB
    clear hD hL hB
    by_cases hl : i < n
    · obtain ⟨y, hc, hz⟩ := DR.out.at hl
      have HV : Hid (IntKind.u64.wrap ((y : Int) + 1) = (((y + 1) % 18446744073709551616 : Nat) : Int)) := by
        show IntKind.u64.wrap ((y : Int) + 1) = _
        rw [IntKind.wrap_u64]; omega
      have l3 : (i : Int) < (n : Int) := by omega
      have XX := Lib.hid (fun x : Nat => Only.of_set (w := wr) (j := i) (by simp : ob ∈ [ob]) (.int .u64 (x : Int)))
      go_wp2_with fail
      rw [HV.out]
      go_roundw
      case rel => exact ⟨i + 1, by omega, by go_num, DR.out.set _, LR.out.stay (XX.out _) hn1.out, BR.out.setCell how _⟩
      case measure => simp [intOf]; omega
    · obtain rfl : i = n := by omega
      go_wp2_with fail
      go_loopw [54] (fun u wq => ∃ (k : Nat) (kd a : Int), k ≤ i ∧ u = .int .i64 k ∧ LayV wq g mg mh b k ((at_ + k : Nat) : Int) ⟨laidL f at_ k N, k, 0, kd, a⟩ (listOf f i) ∧ Below w.heap.size w wq) (fun u _ => i - (intOf u).toNat)
      case atStart => exact ⟨0, 0, 0, Nat.zero_le _, rfl, by rw [laidL_zero]; exact LR.out, BR.out⟩
      case round =>
        obtain ⟨k, kd, a, hk, rfl, hL, hB⟩ := hrel
        have LQ := Lib.hid hL
        have BQ := Lib.hid hB
        have mq := Lib.hid hL.mem
        clear hL hB
        by_cases hl2 : k < i
        · have l3 : (k : Int) < (i : Int) := by omega
          go_wp2_with fail
          refine (ops_any mg mh _ _ mq.out).mono ?_
          rintro e w' ⟨rfl, rfl⟩
          go_wp2_with fail
          refine (lays_step LQ hl2 hn (by have := HN.out; have := HNN.out; omega) (by have := HN.out; have := HNN.out; omega)).mono ?_
          rintro e w5 ⟨he, h5, o5⟩
          have L5 := Lib.hid h5
          have m5 := Lib.hid h5.mem
          have B5 := Lib.hid (below_only BQ.out o5 HGL.out)
          clear h5 o5 LQ mq
          by_cases hkn : k + 1 = i
          · have nE : ((k : Int) == (i : Int) - 1) = true := by simp; omega
            rw [decide_eq_true hkn] at he
            subst he
            go_wp2_with fail
            refine (ops_any mg mh _ _ m5.out).mono ?_
            rintro e w' ⟨rfl, rfl⟩
            go_wp2_with fail
            go_roundw
            case rel => exact ⟨k + 1, 2, _, by omega, by go_num, L5.out, B5.out⟩
            case measure => simp [intOf]; omega
          · have nE : ((k : Int) == (i : Int) - 1) = false := by simp; omega
            rw [decide_eq_false hkn] at he
            subst he
            go_wp2_with fail
            refine (ops_any mg mh _ _ m5.out).mono ?_
            rintro e w' ⟨rfl, rfl⟩
            go_wp2_with fail
            go_roundw
            case rel => exact ⟨k + 1, 2, _, by omega, by go_num, L5.out, B5.out⟩
            case measure => simp [intOf]; omega
        · obtain rfl : k = i := by omega
          go_wp2_with fail
          refine (ops_any mg mh _ _ mq.out).mono ?_
          rintro e w' ⟨rfl, rfl⟩
          go_wp2_with fail
          refine (lstep_done g mg mh b k _ _ _ _ LQ.out (by rw [listOf_len])).mono ?_
          rintro e w' ⟨rfl, rfl⟩
          go_wp2_with fail
          refine (ops_any mg mh _ _ mq.out).mono ?_
          rintro e w' ⟨rfl, rfl⟩
          go_wp2_with fail
          refine (faults_any mg mh _ _ mq.out).mono ?_
          rintro e w' ⟨rfl, rfl⟩
          go_wp2_with fail
          refine (words_any mg mh _ _ mq.out).mono ?_
          rintro e w6 ⟨wb, he, hw, hbl, hb⟩
          have he' : e = .returned (.slice (some ⟨wb, 0, none⟩) N N) := by rw [he]; simp [laidL_len]
          subst he'
          have B6 := Lib.hid (below_two BQ.out hb)
          have HW := Lib.hid hw
          clear he hw hb LQ mq
          go_wp2_with fail
          go_loop [94] (fun u => ∃ q : Nat, q ≤ N ∧ u = .int .i64 q) (fun u => N - (intOf u).toNat)
          case atStart => exact ⟨0, Nat.zero_le _, rfl⟩
          case round =>
            obtain ⟨q, hq, rfl⟩ := hrel
            have hN2 : N ≤ 1000 := by have := HN.out; have := HNN.out; omega
            by_cases hl3 : q < N
            · have cq := words_at' HW.out (j := q) (by rw [laidL_len]; exact hl3)
              rw [laidL_at f at_ k N q hl3] at cq
              have l4 : (q : Int) < (N : Int) := by omega
              by_cases hin : at_ ≤ q ∧ q < at_ + k
              · rw [if_pos hin] at cq
                obtain ⟨b2, off, had, hcell⟩ := (hr.out.next B6.out).at (j := q - at_) (by omega)
                subst had
                have d1 : decide (0 ≤ (q : Int) - (at_ : Int)) = true := by simp; omega
                have d2 : (q : Int) - (at_ : Int) < (k : Int) := by omega
                have d3 : ((q : Int) - (at_ : Int)).toNat = q - at_ := by omega
                generalize f (q - at_) = x at *
                go_wp2_with fail
                go_round
                case rel => exact ⟨q + 1, by omega, by go_num⟩
                case measure => simp [intOf]; omega
              · rw [if_neg hin] at cq
                by_cases h0 : at_ ≤ q
                · have d1 : decide (0 ≤ (q : Int) - (at_ : Int)) = true := by simp; omega
                  have d2 : decide ((q : Int) - (at_ : Int) < (k : Int)) = false := by simp; omega
                  go_wp2_with fail
                  go_round
                  case rel => exact ⟨q + 1, by omega, by go_num⟩
                  case measure => simp [intOf]; omega
                · have d1 : decide (0 ≤ (q : Int) - (at_ : Int)) = false := by simp; omega
                  go_wp2_with fail
                  go_round
                  case rel => exact ⟨q + 1, by omega, by go_num⟩
                  case measure => simp [intOf]; omega
            · obtain rfl : q = N := by omega
              go_wp2_with fail
              go_ret
              exact ⟨rfl, B6.out⟩

set_option maxHeartbeats 1000000 in
theorem lays_many (room at_ n cap : Nat) (ad : Option Addr) (w : World) (hn : ¬ n ≤ 100) (hn2 : n < 9223372036854775808) :
    Calls Try.prog 5 #[.int .u8 room, .int .u8 at_, .slice ad n cap] w fun e w' => e = .returned (.bool true) ∧ Below w.heap.size w w' := by
  have l1 : (100 : Int) < (n : Int) := by omega
  go_enter Try.func5, Try.ntmps5
  go_wp2_with fail
  refine (speaks8 _).mono ?_
  rintro e w1 ⟨rfl, hb⟩
  have HB := Lib.hid hb
  clear hb
  go_wp2_with fail
  go_ret
  exact ⟨rfl, HB.out⟩

theorem lays_walk (room at_ : Nat) (a : Option Addr) (len cap : Nat) (zs : List Int) (w : World) (hroom : room < 256) (hat : at_ < 256) (hz : IsRow .u64 w a len cap zs) :
    Calls Try.prog 5 #[.int .u8 room, .int .u8 at_, .slice a len cap] w fun e w' => e = .returned (.bool true) ∧ Below w.heap.size w w' := by
  obtain ⟨f, hf⟩ := hz.row
  have hl := hz.len
  unfold maxLen at hl
  by_cases h2 : len ≤ 100
  · refine lays_few room at_ len cap a f w hroom hat h2 hf (fun h => ?_)
    rcases hz with ⟨_, h1, h3, _⟩ | ⟨x, h1, _⟩
    · exact ⟨h1, h3⟩
    · rw [h1] at h; cases h
  · exact lays_many room at_ len cap a w h2 (by omega)

end Go.Proofs.Ytlpaijobcopbnaa
