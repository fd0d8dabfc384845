/-
  The walk of the statement ConfFewer: a system that may be may be without one of its classes, as long as it has another one; and with fewer workers, superblocks, tries, or a smaller batch.
-/
import Derived.Test.YtnjgajkcoahefaaWConfOwn
import Derived.Test.YtnjgajkcoahefaaWConfBounds
namespace Go.Proofs.Ytnjgajkcoahefaa
open Go.RowKit

/-- The classes without one. -/
def without (f : Nat → Int) (k : Nat) : Nat → Int := fun j => if j < k then f j else f (j + 1)
theorem cls_facts {f : Nat → Int} {n i : Nat} (h : clsTo f n = true) (hi : i < n) : 16 ≤ f i ∧ f i ≤ 512 ∧ f i % 16 = 0 ∧ (i = 0 ∨ f (i - 1) < f i) := by
  have := clsTo_at h hi
  simp only [clsAt, Bool.and_eq_true, Bool.or_eq_true, decide_eq_true_eq] at this
  exact ⟨this.1.1.1, this.1.1.2, this.1.2, this.2⟩
theorem cls_mk {f : Nat → Int} {i : Nat} (h : 16 ≤ f i ∧ f i ≤ 512 ∧ f i % 16 = 0 ∧ (i = 0 ∨ f (i - 1) < f i)) : clsAt f i = true := by
  simp only [clsAt, Bool.and_eq_true, Bool.or_eq_true, decide_eq_true_eq]
  exact ⟨⟨⟨h.1, h.2.1⟩, h.2.2.1⟩, h.2.2.2⟩
theorem cls_without {f : Nat → Int} {n k : Nat} (h : clsTo f n = true) (hk : k < n) : clsTo (without f k) (n - 1) = true := by
  refine clsTo_of fun i hi => cls_mk ?_
  by_cases h1 : i < k
  · have e : without f k i = f i := if_pos h1
    rw [e]
    obtain ⟨a, b, c, d⟩ := cls_facts h (show i < n by omega)
    refine ⟨a, b, c, ?_⟩
    rcases d with d | d
    · exact .inl d
    · by_cases h0 : i = 0
      · exact .inl h0
      · exact .inr (by rw [show without f k (i - 1) = f (i - 1) from if_pos (by omega)]; exact d)
  · have e : without f k i = f (i + 1) := if_neg h1
    rw [e]
    obtain ⟨a, b, c, d⟩ := cls_facts h (show i + 1 < n by omega)
    refine ⟨a, b, c, ?_⟩
    by_cases h0 : i = 0
    · exact .inl h0
    · right
      have d' : f i < f (i + 1) := by rcases d with d | d
                                      · omega
                                      · exact d
      by_cases h2 : i - 1 < k
      · rw [show without f k (i - 1) = f (i - 1) from if_pos h2]
        obtain ⟨_, _, _, d2⟩ := cls_facts h (show i < n by omega)
        rcases d2 with d2 | d2
        · omega
        · omega
      · rw [show without f k (i - 1) = f (i - 1 + 1) from if_neg h2, show i - 1 + 1 = i from by omega]
        exact d'
theorem nums_without (f : Nat → Int) (k n : Nat) (hk : k < n) : numsOf f k ++ numsOf (fun j => f (k + 1 + j)) (n - (k + 1)) = numsOf (without f k) (n - 1) := by
  apply List.ext_getElem
  · simp [numsOf]; omega
  · intro i h1 h2
    simp only [numsOf, List.getElem_append, List.length_map, List.length_range, List.getElem_map, List.getElem_range, without]
    split
    · rfl
    · rename_i h
      rw [show k + 1 + (i - k) = i + 1 from by omega]
theorem may_without {W S B T : Int} {len k : Nat} {f : Nat → Int} (h : mayB W S B T len f = true) (hk : k < len) : mayB W S B T (len - 1) (without f k) = decide (1 < len) := by
  obtain ⟨h1, h2, h3, h4, h5, h6⟩ := may_nums h
  by_cases hl : 1 < len
  · rw [may_of h1 h2 h3 h4 (by omega) (cls_without h6 hk)]; simp [hl]
  · obtain rfl : len = 1 := by omega
    simp [mayB, clsAll]
theorem may_half {W S B T : Int} {len : Nat} {f : Nat → Int} (h : mayB W S B T len f = true) : mayB ((W + 1) / 2) ((S + 1) / 2) ((B + 1) / 2) (T / 2) len f = true := by
  obtain ⟨h1, h2, h3, h4, h5, h6⟩ := may_nums h
  exact may_of (by omega) (by omega) (by omega) (by omega) h5 h6
theorem bound_mono {W S T W' S' T' : Int} (h1 : 0 ≤ W') (h2 : W' ≤ W) (h3 : 0 ≤ S') (h4 : S' ≤ S) (h5 : 0 ≤ T') (h6 : T' ≤ T) : boundI W' S' T' ≤ boundI W S T := by
  rw [bound_form2, bound_form2]
  have := Int.mul_le_mul (show T' + 2 ≤ T + 2 by omega) (show 4 * S' + 10 * W' + 6 ≤ 4 * S + 10 * W + 6 by omega) (by omega) (by omega)
  omega

theorem set_keep {w : World} {k B j i : Nat} {v : Value} (hk : k ≠ B) (x : Value) (h : w.cell? ⟨k, j, none⟩ = some v) : (w.setCell ⟨B, i, none⟩ x).cell? ⟨k, j, none⟩ = some v := (World.cell?_of_block (w := w) (set_other hk x)).trans h
theorem setD1 {w : World} {k B j : Nat} {v : Value} (hk : k ≠ B) (x : Value) (h : w.cell? ⟨k, j, none⟩ = some v) : (w.setCell ⟨B, 0, none⟩ x).drew.cell? ⟨k, j, none⟩ = some v := set_keep hk x h
theorem setD2 {w : World} {k B j : Nat} {v : Value} (hk : k ≠ B) (x y : Value) (h : w.cell? ⟨k, j, none⟩ = some v) : ((w.setCell ⟨B, 0, none⟩ x).setCell ⟨B, 1, none⟩ y).drew.cell? ⟨k, j, none⟩ = some v := set_keep hk y (set_keep hk x h)
theorem setD3 {w : World} {k B j : Nat} {v : Value} (hk : k ≠ B) (x y z : Value) (h : w.cell? ⟨k, j, none⟩ = some v) : (((w.setCell ⟨B, 0, none⟩ x).setCell ⟨B, 1, none⟩ y).setCell ⟨B, 2, none⟩ z).drew.cell? ⟨k, j, none⟩ = some v := set_keep hk z (set_keep hk y (set_keep hk x h))
theorem setD4 {w : World} {k B j : Nat} {v : Value} (hk : k ≠ B) (x y z u : Value) (h : w.cell? ⟨k, j, none⟩ = some v) : ((((w.setCell ⟨B, 0, none⟩ x).setCell ⟨B, 1, none⟩ y).setCell ⟨B, 2, none⟩ z).setCell ⟨B, 3, none⟩ u).drew.cell? ⟨k, j, none⟩ = some v := set_keep hk u (set_keep hk z (set_keep hk y (set_keep hk x h)))
theorem cfg_set4 {w : World} {N : Nat} {W S B T : Int} {cl : Value} (h : Cfg5 w N W S B T cl) (W' S' B' T' : Int) :
    Cfg5 ((((w.setCell ⟨N, 0, none⟩ (.int .i64 W')).setCell ⟨N, 1, none⟩ (.int .i64 S')).setCell ⟨N, 2, none⟩ (.int .i64 B')).setCell ⟨N, 3, none⟩ (.int .i64 T')) N W' S' B' T' cl := by
  unfold Cfg5; rw [set_of (set_of (set_of (set_of h _) _) _) _]; rfl
theorem row_drew {w : World} {ad : Option Addr} {len : Nat} {f : Nat → Int} (h : RowI w ad len f) : RowI w.drew ad len f := h
theorem RowI.less {w : World} {ad : Option Addr} {len k : Nat} {f : Nat → Int} (h : RowI w ad len f) (hk : k < len) : RowI w ad k f := fun _ => by
  obtain ⟨b, off, e, hl, hc⟩ := h (by omega)
  exact ⟨b, off, e, hl, fun j hj => hc j (by omega)⟩
theorem own_plain {w : World} {g n cap : Nat} {xs : List Value} (h : w.ownsRow 0 3 1 (.slice (some ⟨g, 0, none⟩) (0 + n) cap) (0 + n) ([] ++ xs)) : w.ownsRow 0 3 1 (.slice (some ⟨g, 0, none⟩) n cap) n xs := by simpa using h
theorem tail_nil {b off q cap len : Nat} : (if cap = q then some (⟨b, off, none⟩ : Addr) else some ⟨b, off + q, none⟩) = none → len - q = 0 ∧ cap - q = 0 := by
  intro h; split at h <;> cases h
theorem tail_src {w : World} {b off len cap q : Nat} {f : Nat → Int} (hr : RowI w (some ⟨b, off, none⟩) len f) (hlc : len ≤ cap) : ∀ a, (if cap = q then some (⟨b, off, none⟩ : Addr) else some ⟨b, off + q, none⟩) = some a → ∀ j u, (numsOf (fun j => f (q + j)) (len - q))[j]? = some u → w.cell? (a.add j) = some u := by
  intro a ha j u hu
  obtain ⟨hj, rfl⟩ := nums_at hu
  rw [if_neg (by omega)] at ha
  obtain rfl := Option.some.inj ha
  obtain ⟨b', off', e, _, hc⟩ := hr (by omega)
  simp at e
  obtain ⟨rfl, rfl⟩ := e
  rw [Addr.add_lit, Nat.add_assoc]
  exact hc (q + j) (by omega)

set_option maxRecDepth 20000 in
set_option maxHeartbeats 4000000 in
theorem fewer_yes (W S B T : Int) (m : Nat) (ad : Option Addr) (len cap : Nat) (f : Nat → Int) (w : World) (hr : Hid (RowI w ad len f)) (hm : Hid (mayB W S B T len f = true)) (hlc : len ≤ cap) (hcm : cap ≤ 9223372036854775807) (hm8 : m ≤ 255) :
    Calls Try.prog 12 #[.agg #[.int .i64 W, .int .i64 S, .int .i64 B, .int .i64 T, .slice ad len cap], .int .u8 m] w fun e w' => e = .returned (.bool true) ∧ Below w.heap.size w w' := by
  obtain ⟨i0, hi, hz0, hz1, hz2⟩ := info_parts infoInt
  have B0 := Lib.hid (below_alloc w (.cells #[.int .i64 W, .int .i64 S, .int .i64 B, .int .i64 T, .slice ad len cap] 48))
  have C0 := Lib.hid (cfg_new w W S B T (.slice ad len cap))
  obtain ⟨⟨w1, w2⟩, ⟨s1, s2⟩, ⟨b1, b2⟩, ⟨t1, t2⟩, ⟨l1, l2⟩, hcls⟩ := may_nums hm.out
  clear hcls
  obtain ⟨b0, off, rfl, hb0, hc0⟩ := hr.out (by omega)
  clear hb0 hc0
  obtain ⟨k, hk⟩ : ∃ k : Nat, (m : Int) % (len : Int) = (k : Int) := ⟨m % len, by omega⟩
  have hkl : k < len := by have := Int.emod_lt_of_pos (m : Int) (show (0 : Int) < (len : Int) by omega); omega
  go_enter Try.func12, Try.ntmps12
  go_wp2_with fail
  generalize w.alloc (.cells #[.int .i64 W, .int .i64 S, .int .i64 B, .int .i64 T, .slice (some ⟨b0, off, none⟩) len cap] 48) = w0 at *
  generalize hN : w.heap.size = N at *
  refine (speaks4 _).mono ?_
  rintro e wa ⟨rfl, hb⟩
  have C1 := Lib.hid (cfg_next C0.out hb)
  have B1 : Hid (Below N w wa) := B0.out.trans (hb.mono (Nat.le_of_lt (cfg_lt C0.out)))
  clear hb C0
  obtain ⟨c0, c1, c2, c3, c4⟩ := cfg_cells C1.out
  go_wp2_with fail
  refine (rmay_any W S B T _ len cap f _ (hr.out.next (by rw [hN]; exact B1.out)) (by omega)).mono ?_
  rintro e wb ⟨he, hb⟩
  have he' : e = .returned (.bool true) := by rw [he, hm.out]
  subst he'
  have C2 := Lib.hid (cfg_next C1.out hb)
  have B2 : Hid (Below N w wb) := B1.out.trans (hb.mono (Nat.le_of_lt (cfg_lt C1.out)))
  clear hb C1 c0 c1 c2 c3 c4 he
  obtain ⟨c0, c1, c2, c3, c4⟩ := cfg_cells C2.out
  go_wp2_with fail
  refine (copy_any W S B T _ len cap f _ (hr.out.next (by rw [hN]; exact B2.out)) (by omega)).mono ?_
  rintro e wc ⟨bd, rfl, hnums, hbb, hb3⟩
  have ba := below_alloc wc (.cells #[.int .i64 W, .int .i64 S, .int .i64 B, .int .i64 T, .slice (some ⟨bd, 0, none⟩) len len] 48)
  have C3 := Lib.hid (cfg_next (cfg_next C2.out hb3) ba)
  have D3 := Lib.hid (cfg_new wc W S B T (.slice (some ⟨bd, 0, none⟩) len len))
  have B3 : Hid (Below N w (wc.alloc (.cells #[.int .i64 W, .int .i64 S, .int .i64 B, .int .i64 T, .slice (some ⟨bd, 0, none⟩) len len] 48))) := (B2.out.trans (hb3.mono (Nat.le_of_lt (cfg_lt C2.out)))).trans (ba.mono (Nat.le_of_lt (cfg_lt (cfg_next C2.out hb3))))
  have E3 := cfg_next C2.out hb3
  obtain ⟨k0, k1, k2, k3, k4⟩ := cfg_cells E3
  obtain ⟨e0, e1, e2, e3, e4⟩ := cfg_cells C3.out
  have hne : ¬ N = wc.heap.size := by have := cfg_lt E3; omega
  have hlt : N < wc.heap.size := cfg_lt E3
  clear hnums hbb hb3 ba c0 c1 c2 c3 c4 E3 C2 B2
  go_wp2_with fail
  generalize wc.alloc (.cells #[.int .i64 W, .int .i64 S, .int .i64 B, .int .i64 T, .slice (some ⟨bd, 0, none⟩) len len] 48) = w3 at *
  generalize hM : wc.heap.size = M at *
  clear k0 k1 k2 k3 k4
  have kk1 : (0 : Int) ≤ (k : Int) := by omega
  have kk2 : (k : Int) ≤ (cap : Int) := by omega
  obtain ⟨q, hq⟩ : ∃ q : Nat, q = k + 1 := ⟨_, rfl⟩
  have hwk : IntKind.i64.wrap ((k : Int) + 1) = (q : Int) := by rw [IntKind.wrap_i64]; omega
  have kk3 : (q : Int) ≤ (len : Int) := by omega
  have kk4 : (len : Int) ≤ (cap : Int) := by omega
  have kk5 : (0 : Int) ≤ (q : Int) := by omega
  have kk6 : (k : Int) ≤ (len : Int) := by omega
  have HQ := Lib.hid hq
  clear hq
  have R3 : Hid (RowI w3 (some ⟨b0, off, none⟩) len f) := hr.out.next (by rw [hN]; exact B3.out)
  have lM3 : M < w3.heap.size := cfg_lt D3.out
  have lN3 : N < w3.heap.size := cfg_lt C3.out
  have hNM : N ≠ M := hne
  obtain ⟨d0, d1, d2, d3, d4⟩ := cfg_cells D3.out
  go_region_held3 (fun w' => w'.cell? ⟨N, 4, none⟩ = some (.slice (some ⟨b0, off, none⟩) len cap)) (first | (go_keep; done) | with_reducible exact s4 | with_reducible exact s5 | with_reducible exact set_keep hNM _ s5) ((first | (refine step_append_gen _ (by rfl) (.tmp 21) (.tmp 25) 46 (by rfl) 3 i0 (.int .i64 0) 8 Try.underlying46 hi hz0 hz1 hz2 rfl w3.heap.size 0 0 [] (by rfl) (World.ownsRow.drew (own_none w3 _ rfl)) (some ⟨b0, off, none⟩) k cap (numsOf f k) (by rfl) (fun h => by cases h) (nums_len f k) (src_any (row_drew ((R3.out.less hkl).next (below_alloc w3 _)))) (nums_one f k) (by unfold maxLen; omega) (by omega) (w3.heap.size + 1) (by simp [World.drew]) ?_; intro g1 cap1 w4 hown4 hgrow4 hat4 hlt4; have hb4 : Below w3.heap.size w3 w4 := (below_alloc w3 _).drew.grown hgrow4 (by simp [World.drew]) (fun z hz => by simp at hz; omega); have s4 := (hb4.cell (p := ⟨N, 4, none⟩) lN3).trans e4; have O4 := Lib.hid (own_plain hown4); have HG1 : w3.heap.size ≤ g1 := (by omega)) | (refine step_append_gen _ (by rfl) (.tmp 26) (.tmp 31) 46 (by rfl) 3 i0 (.int .i64 0) 8 Try.underlying46 hi hz0 hz1 hz2 rfl g1 k cap1 (numsOf f k) (by first | rfl | (show Value.slice (some ⟨g1, 0, none⟩) (0 + k) cap1 = _; rw [Nat.zero_add])) O4.out (if cap = q then some ⟨b0, off, none⟩ else some ⟨b0, off + q, none⟩) (len - q) (cap - q) (numsOf (fun j => f (q + j)) (len - q)) (by rfl) (tail_nil) (nums_len _ _) (tail_src (R3.out.next hb4) hlc) (nums_one _ _) (by unfold maxLen; omega) (by omega) w4.heap.size rfl ?_; intro g2 cap2 w5 hown5 hgrow5 hat5 hlt5; have hb5 : Below w3.heap.size w3 w5 := hb4.grown hgrow5 hb4.size (fun z hz => by simp at hz; omega); have s5 := (hb5.cell (p := ⟨N, 4, none⟩) lN3).trans e4; have m4 := (hb5.cell (p := ⟨M, 4, none⟩) lM3).trans d4; have mz := (hb5.frozen (p := ⟨M, 4, none⟩) lM3).trans (cfg_frz D3.out 4); have HG2 : w3.heap.size ≤ g2 := (by have := hb4.size; omega))))
  have eL : k + (len - q) = len - 1 := by have := HQ.out; omega
  rw [eL]
  generalize (if cap = q then some (⟨b0, off, none⟩ : Addr) else some ⟨b0, off + q, none⟩) = ao
  rw [eL] at hown5
  have R5 := row_own (f := without f k) (by rw [← nums_without f k len hkl]; have := HQ.out; subst this; exact hown5)
  have C5 := cfg_next C3.out hb5
  have D5 := cfg_next D3.out hb5
  have B5 : Below N w w5 := B3.out.trans (hb5.mono (Nat.le_of_lt lN3))
  have C6 : Hid (Cfg5 (w5.setCell ⟨M, 4, none⟩ (.slice (some ⟨g2, 0, none⟩) (len - 1) cap2)) N W S B T (.slice (some ⟨b0, off, none⟩) len cap)) := (set_other hNM _).trans C5
  have D6 := Lib.hid (cfg_set D5 (.slice (some ⟨g2, 0, none⟩) (len - 1) cap2))
  have R6 := Lib.hid (R5.aside (j := 4) (b := M) (by omega) (.slice (some ⟨g2, 0, none⟩) (len - 1) cap2))
  have B6 := Lib.hid (B5.setCell (p := ⟨M, 4, none⟩) (show N ≤ M by omega) (.slice (some ⟨g2, 0, none⟩) (len - 1) cap2))
  clear hown4 hgrow4 hat4 hlt4 hb4 s4 O4 HG1 hown5 hgrow5 hat5 hlt5 hb5 s5 m4 mz HG2 eL R5 C5 D5 B5 R3 B3 C3 D3 d0 d1 d2 d3 d4 e0 e1 e2 e3 e4 lM3 lN3
  generalize w5.setCell ⟨M, 4, none⟩ (.slice (some ⟨g2, 0, none⟩) (len - 1) cap2) = w6 at *
  obtain ⟨c0, c1, c2, c3, c4⟩ := cfg_cells C6.out
  obtain ⟨d0, d1, d2, d3, d4⟩ := cfg_cells D6.out
  have lN6 : N < w6.drew.heap.size := cfg_lt C6.out
  have lM6 : M < w6.drew.heap.size := cfg_lt D6.out
  have HK6 := Lib.hid (check_any W S B T (some ⟨g2, 0, none⟩) (len - 1) cap2 (without f k) w6.drew R6.out (by omega))
  rw [may_without hm.out hkl] at HK6
  have hlenI : decide ((1 : Int) < (len : Int)) = decide (1 < len) := by rw [decide_eq_decide]; omega
  have HE1 : Hid (errI true = 0) := rfl
  have HE0 : Hid (errI false = 1) := rfl
  generalize hone : decide (1 < len) = one at *
  clear hone
  cases one
  · rw [HE0.out] at HK6
    go_wp2_with fail
    go_region_held3 (fun w' => w'.cell? ⟨M, 0, none⟩ = some (.int .i64 W) ∧ w'.cell? ⟨M, 1, none⟩ = some (.int .i64 S) ∧ w'.cell? ⟨M, 2, none⟩ = some (.int .i64 B) ∧ w'.cell? ⟨M, 3, none⟩ = some (.int .i64 T) ∧ w'.cell? ⟨M, 4, none⟩ = some (.slice (some ⟨g2, 0, none⟩) (len - 1) cap2) ∧ w'.cell? ⟨N, 4, none⟩ = some (.slice (some ⟨b0, off, none⟩) len cap)) (first | (go_keep; done) | with_reducible exact ⟨s0, s1, s2, s3, s4, s5⟩) ((go_at_call 31; refine HK6.out.mono ?_; rintro e w7 ⟨rfl, hb7⟩; have s0 := (hb7.cell (p := ⟨M, 0, none⟩) lM6).trans d0; have s1 := (hb7.cell (p := ⟨M, 1, none⟩) lM6).trans d1; have s2 := (hb7.cell (p := ⟨M, 2, none⟩) lM6).trans d2; have s3 := (hb7.cell (p := ⟨M, 3, none⟩) lM6).trans d3; have s4 := (hb7.cell (p := ⟨M, 4, none⟩) lM6).trans d4; have s5 := (hb7.cell (p := ⟨N, 4, none⟩) lN6).trans c4))
    have C7 := Lib.hid (cfg_next (w := w6.drew) C6.out hb7)
    have B7 : Hid (Below N w w7) := below_drew2 B6.out (Nat.le_of_lt lN6) hb7
    clear s0 s1 s2 s3 s4 s5 hb7 c0 c1 c2 c3 c4 d0 d1 d2 d3 d4 C6 D6 R6 B6 HK6 lN6 lM6
    obtain ⟨c0, c1, c2, c3, c4⟩ := cfg_cells C7.out
    go_wp2_with fail
    refine (copy_any W S B T _ len cap f _ (hr.out.next (by rw [hN]; exact B7.out)) (by omega)).mono ?_
    rintro e w8 ⟨be, rfl, hnums, hbe, hb8⟩
    have ba := below_alloc w8 (.cells #[.int .i64 W, .int .i64 S, .int .i64 B, .int .i64 T, .slice (some ⟨be, 0, none⟩) len len] 48)
    have C9 := Lib.hid (cfg_next (cfg_next C7.out hb8) ba)
    have E9 := Lib.hid (cfg_new w8 W S B T (.slice (some ⟨be, 0, none⟩) len len))
    have hbe2 : be < w8.heap.size := heap_lt hnums
    have RE : Hid (RowI (w8.alloc (.cells #[.int .i64 W, .int .i64 S, .int .i64 B, .int .i64 T, .slice (some ⟨be, 0, none⟩) len len] 48)) (some ⟨be, 0, none⟩) len f) := (row_block hnums (by rw [List.take_of_length_le (by simp [nums_len])])).next ba
    have lN7 := cfg_lt C7.out
    have B9 : Hid (Below N w (w8.alloc (.cells #[.int .i64 W, .int .i64 S, .int .i64 B, .int .i64 T, .slice (some ⟨be, 0, none⟩) len len] 48))) := (B7.out.trans (hb8.mono (Nat.le_of_lt lN7))).trans (ba.mono (Nat.le_of_lt (Nat.lt_of_lt_of_le lN7 hb8.size)))
    have hn8 : N < w8.heap.size := Nat.lt_of_lt_of_le lN7 hb8.size
    have hn8' : ¬ N = w8.heap.size := by omega
    clear hnums hb8 ba c0 c1 c2 c3 c4 C7 B7
    go_wp2_with fail
    generalize w8.alloc (.cells #[.int .i64 W, .int .i64 S, .int .i64 B, .int .i64 T, .slice (some ⟨be, 0, none⟩) len len] 48) = w9 at *
    generalize hY : w8.heap.size = Y at *
    obtain ⟨c0, c1, c2, c3, c4⟩ := cfg_cells C9.out
    obtain ⟨d0, d1, d2, d3, d4⟩ := cfg_cells E9.out
    have zE := cfg_frz E9.out
    have hw0 : IntKind.i64.wrap (W + 1) = W + 1 := by rw [IntKind.wrap_i64]; omega
    have hw1 : IntKind.i64.wrap (S + 1) = S + 1 := by rw [IntKind.wrap_i64]; omega
    have hw2 : IntKind.i64.wrap (B + 1) = B + 1 := by rw [IntKind.wrap_i64]; omega
    obtain ⟨W', hW⟩ : ∃ x, x = (W + 1) / 2 := ⟨_, rfl⟩
    obtain ⟨S', hS⟩ : ∃ x, x = (S + 1) / 2 := ⟨_, rfl⟩
    obtain ⟨Q', hB⟩ : ∃ x, x = (B + 1) / 2 := ⟨_, rfl⟩
    obtain ⟨T', hT⟩ : ∃ x, x = T / 2 := ⟨_, rfl⟩
    have hv0 : IntKind.i64.wrap ((W + 1).tdiv 2) = W' := by rw [IntKind.wrap_i64, Int.tdiv_eq_ediv_of_nonneg (by omega)]; omega
    have hv1 : IntKind.i64.wrap ((S + 1).tdiv 2) = S' := by rw [IntKind.wrap_i64, Int.tdiv_eq_ediv_of_nonneg (by omega)]; omega
    have hv2 : IntKind.i64.wrap ((B + 1).tdiv 2) = Q' := by rw [IntKind.wrap_i64, Int.tdiv_eq_ediv_of_nonneg (by omega)]; omega
    have hv3 : IntKind.i64.wrap (T.tdiv 2) = T' := by rw [IntKind.wrap_i64, Int.tdiv_eq_ediv_of_nonneg (by omega)]; omega
    have HM' : Hid (mayB W' S' Q' T' len f = true) := by rw [hW, hS, hB, hT]; exact may_half hm.out
    obtain ⟨v1, v2⟩ : 0 ≤ W' ∧ W' ≤ W := by omega
    obtain ⟨v3, v4⟩ : 0 ≤ S' ∧ S' ≤ S := by omega
    obtain ⟨v5, v6⟩ : 0 ≤ T' ∧ T' ≤ T := by omega
    clear hW hS hB hT
    have hNY : N ≠ Y := hn8'
    go_region_held3 (fun w' => w'.cell? ⟨N, 0, none⟩ = some (.int .i64 W) ∧ w'.cell? ⟨N, 1, none⟩ = some (.int .i64 S) ∧ w'.cell? ⟨N, 2, none⟩ = some (.int .i64 B) ∧ w'.cell? ⟨N, 3, none⟩ = some (.int .i64 T)) (first | (go_keep; done) | with_reducible exact ⟨setD1 hNY _ c0, setD1 hNY _ c1, setD1 hNY _ c2, setD1 hNY _ c3⟩ | with_reducible exact ⟨setD2 hNY _ _ c0, setD2 hNY _ _ c1, setD2 hNY _ _ c2, setD2 hNY _ _ c3⟩ | with_reducible exact ⟨setD3 hNY _ _ _ c0, setD3 hNY _ _ _ c1, setD3 hNY _ _ _ c2, setD3 hNY _ _ _ c3⟩ | with_reducible exact ⟨setD4 hNY _ _ _ _ c0, setD4 hNY _ _ _ _ c1, setD4 hNY _ _ _ _ c2, setD4 hNY _ _ _ _ c3⟩) (fail)
    have CZ : Hid (Cfg5 ((((w9.setCell ⟨Y, 0, none⟩ (.int .i64 W')).setCell ⟨Y, 1, none⟩ (.int .i64 S')).setCell ⟨Y, 2, none⟩ (.int .i64 Q')).setCell ⟨Y, 3, none⟩ (.int .i64 T')) N W S B T (.slice (some ⟨b0, off, none⟩) len cap)) := (set_other hNY _).trans ((set_other hNY _).trans ((set_other hNY _).trans ((set_other hNY _).trans C9.out)))
    have EZ := Lib.hid (cfg_set4 E9.out W' S' Q' T')
    have hbY : be ≠ Y := by omega
    have hNY' : N ≤ Y := by omega
    have RZ := Lib.hid ((((RE.out.aside (j := 0) hbY (.int .i64 W')).aside (j := 1) hbY (.int .i64 S')).aside (j := 2) hbY (.int .i64 Q')).aside (j := 3) hbY (.int .i64 T'))
    have BZ := Lib.hid ((((B9.out.setCell (p := ⟨Y, 0, none⟩) hNY' (.int .i64 W')).setCell (p := ⟨Y, 1, none⟩) hNY' (.int .i64 S')).setCell (p := ⟨Y, 2, none⟩) hNY' (.int .i64 Q')).setCell (p := ⟨Y, 3, none⟩) hNY' (.int .i64 T'))
    clear C9 E9 RE B9 c0 c1 c2 c3 c4 d0 d1 d2 d3 d4 zE hv0 hv1 hv2 hv3 hw0 hw1 hw2
    generalize (((w9.setCell ⟨Y, 0, none⟩ (.int .i64 W')).setCell ⟨Y, 1, none⟩ (.int .i64 S')).setCell ⟨Y, 2, none⟩ (.int .i64 Q')).setCell ⟨Y, 3, none⟩ (.int .i64 T') = wz at *
    obtain ⟨c0, c1, c2, c3, c4⟩ := cfg_cells CZ.out
    obtain ⟨d0, d1, d2, d3, d4⟩ := cfg_cells EZ.out
    have lNz : N < wz.drew.drew.heap.size := cfg_lt CZ.out
    have lYz : Y < wz.drew.drew.heap.size := cfg_lt EZ.out
    have HKZ := Lib.hid (check_any W' S' Q' T' (some ⟨be, 0, none⟩) len len f wz.drew.drew RZ.out (by omega))
    rw [HM'.out, HE1.out] at HKZ
    have HBE := Lib.hid (fun w => bound_any W' S' Q' T' (.slice (some ⟨be, 0, none⟩) len len) w (by omega) (by omega) (by omega) (by omega) (by omega) (by omega))
    have HBC := Lib.hid (fun w => bound_any W S B T (.slice (some ⟨b0, off, none⟩) len cap) w (by omega) (by omega) (by omega) (by omega) (by omega) (by omega))
    have hmono : boundI W' S' T' ≤ boundI W S T := bound_mono v1 v2 v3 v4 v5 v6
    generalize boundI W' S' T' = R' at *
    generalize boundI W S T = R at *
    go_wp2_with fail
    go_region_held3 (fun w' => (w'.cell? ⟨Y, 0, none⟩ = some (.int .i64 W') ∧ w'.cell? ⟨Y, 1, none⟩ = some (.int .i64 S') ∧ w'.cell? ⟨Y, 2, none⟩ = some (.int .i64 Q') ∧ w'.cell? ⟨Y, 3, none⟩ = some (.int .i64 T') ∧ w'.cell? ⟨Y, 4, none⟩ = some (.slice (some ⟨be, 0, none⟩) len len)) ∧ w'.cell? ⟨N, 0, none⟩ = some (.int .i64 W) ∧ w'.cell? ⟨N, 1, none⟩ = some (.int .i64 S) ∧ w'.cell? ⟨N, 2, none⟩ = some (.int .i64 B) ∧ w'.cell? ⟨N, 3, none⟩ = some (.int .i64 T) ∧ w'.cell? ⟨N, 4, none⟩ = some (.slice (some ⟨b0, off, none⟩) len cap)) (first | (go_keep; done) | with_reducible exact ⟨⟨pd0, pd1, pd2, pd3, pd4⟩, pc0, pc1, pc2, pc3, pc4⟩ | with_reducible exact ⟨⟨qd0, qd1, qd2, qd3, qd4⟩, qc0, qc1, qc2, qc3, qc4⟩ | with_reducible exact ⟨⟨rd0, rd1, rd2, rd3, rd4⟩, rc0, rc1, rc2, rc3, rc4⟩) ((first | (go_at_call 31; refine HKZ.out.mono ?_; rintro e wP ⟨rfl, hbP⟩; have pd0 := (hbP.cell (p := ⟨Y, 0, none⟩) lYz).trans d0; have pc0 := (hbP.cell (p := ⟨N, 0, none⟩) lNz).trans c0; have pd1 := (hbP.cell (p := ⟨Y, 1, none⟩) lYz).trans d1; have pc1 := (hbP.cell (p := ⟨N, 1, none⟩) lNz).trans c1; have pd2 := (hbP.cell (p := ⟨Y, 2, none⟩) lYz).trans d2; have pc2 := (hbP.cell (p := ⟨N, 2, none⟩) lNz).trans c2; have pd3 := (hbP.cell (p := ⟨Y, 3, none⟩) lYz).trans d3; have pc3 := (hbP.cell (p := ⟨N, 3, none⟩) lNz).trans c3; have pd4 := (hbP.cell (p := ⟨Y, 4, none⟩) lYz).trans d4; have pc4 := (hbP.cell (p := ⟨N, 4, none⟩) lNz).trans c4; have lNP : N < wP.heap.size := Nat.lt_of_lt_of_le lNz hbP.size; have lYP : Y < wP.heap.size := Nat.lt_of_lt_of_le lYz hbP.size) | (go_at_call 32; refine (HBC.out wQ).mono ?_; rintro e wR ⟨rfl, hbR⟩; have rd0 := (hbR.cell (p := ⟨Y, 0, none⟩) lYQ).trans qd0; have rc0 := (hbR.cell (p := ⟨N, 0, none⟩) lNQ).trans qc0; have rd1 := (hbR.cell (p := ⟨Y, 1, none⟩) lYQ).trans qd1; have rc1 := (hbR.cell (p := ⟨N, 1, none⟩) lNQ).trans qc1; have rd2 := (hbR.cell (p := ⟨Y, 2, none⟩) lYQ).trans qd2; have rc2 := (hbR.cell (p := ⟨N, 2, none⟩) lNQ).trans qc2; have rd3 := (hbR.cell (p := ⟨Y, 3, none⟩) lYQ).trans qd3; have rc3 := (hbR.cell (p := ⟨N, 3, none⟩) lNQ).trans qc3; have rd4 := (hbR.cell (p := ⟨Y, 4, none⟩) lYQ).trans qd4; have rc4 := (hbR.cell (p := ⟨N, 4, none⟩) lNQ).trans qc4; have lNR : N < wR.heap.size := Nat.lt_of_lt_of_le lNQ hbR.size; have lYR : Y < wR.heap.size := Nat.lt_of_lt_of_le lYQ hbR.size) | (go_at_call 32; refine (HBE.out wP).mono ?_; rintro e wQ ⟨rfl, hbQ⟩; have qd0 := (hbQ.cell (p := ⟨Y, 0, none⟩) lYP).trans pd0; have qc0 := (hbQ.cell (p := ⟨N, 0, none⟩) lNP).trans pc0; have qd1 := (hbQ.cell (p := ⟨Y, 1, none⟩) lYP).trans pd1; have qc1 := (hbQ.cell (p := ⟨N, 1, none⟩) lNP).trans pc1; have qd2 := (hbQ.cell (p := ⟨Y, 2, none⟩) lYP).trans pd2; have qc2 := (hbQ.cell (p := ⟨N, 2, none⟩) lNP).trans pc2; have qd3 := (hbQ.cell (p := ⟨Y, 3, none⟩) lYP).trans pd3; have qc3 := (hbQ.cell (p := ⟨N, 3, none⟩) lNP).trans pc3; have qd4 := (hbQ.cell (p := ⟨Y, 4, none⟩) lYP).trans pd4; have qc4 := (hbQ.cell (p := ⟨N, 4, none⟩) lNP).trans pc4; have lNQ : N < wQ.heap.size := Nat.lt_of_lt_of_le lNP hbQ.size; have lYQ : Y < wQ.heap.size := Nat.lt_of_lt_of_le lYP hbQ.size)))
    have BY : Hid (Below N w wR) := ((below_drew2 (w1 := wz.drew) BZ.out.drew (Nat.le_of_lt lNz) hbP).trans (hbQ.mono (Nat.le_of_lt lNP))).trans (hbR.mono (Nat.le_of_lt lNQ))
    clear pd0 pd1 pd2 pd3 pd4 pc0 pc1 pc2 pc3 pc4 qd0 qd1 qd2 qd3 qd4 qc0 qc1 qc2 qc3 qc4 rd0 rd1 rd2 rd3 rd4 rc0 rc1 rc2 rc3 rc4 hbP hbQ hbR
    go_wp2_with fail
    go_ret
    exact ⟨rfl, by rw [hN]; exact BY.out⟩
  · rw [HE1.out] at HK6
    go_wp2_with fail
    go_region_held3 (fun w' => w'.cell? ⟨M, 0, none⟩ = some (.int .i64 W) ∧ w'.cell? ⟨M, 1, none⟩ = some (.int .i64 S) ∧ w'.cell? ⟨M, 2, none⟩ = some (.int .i64 B) ∧ w'.cell? ⟨M, 3, none⟩ = some (.int .i64 T) ∧ w'.cell? ⟨M, 4, none⟩ = some (.slice (some ⟨g2, 0, none⟩) (len - 1) cap2) ∧ w'.cell? ⟨N, 4, none⟩ = some (.slice (some ⟨b0, off, none⟩) len cap)) (first | (go_keep; done) | with_reducible exact ⟨s0, s1, s2, s3, s4, s5⟩) ((go_at_call 31; refine HK6.out.mono ?_; rintro e w7 ⟨rfl, hb7⟩; have s0 := (hb7.cell (p := ⟨M, 0, none⟩) lM6).trans d0; have s1 := (hb7.cell (p := ⟨M, 1, none⟩) lM6).trans d1; have s2 := (hb7.cell (p := ⟨M, 2, none⟩) lM6).trans d2; have s3 := (hb7.cell (p := ⟨M, 3, none⟩) lM6).trans d3; have s4 := (hb7.cell (p := ⟨M, 4, none⟩) lM6).trans d4; have s5 := (hb7.cell (p := ⟨N, 4, none⟩) lN6).trans c4))
    have C7 := Lib.hid (cfg_next (w := w6.drew) C6.out hb7)
    have B7 : Hid (Below N w w7) := below_drew2 B6.out (Nat.le_of_lt lN6) hb7
    clear s0 s1 s2 s3 s4 s5 hb7 c0 c1 c2 c3 c4 d0 d1 d2 d3 d4 C6 D6 R6 B6 HK6 lN6 lM6
    obtain ⟨c0, c1, c2, c3, c4⟩ := cfg_cells C7.out
    go_wp2_with fail
    refine (copy_any W S B T _ len cap f _ (hr.out.next (by rw [hN]; exact B7.out)) (by omega)).mono ?_
    rintro e w8 ⟨be, rfl, hnums, hbe, hb8⟩
    have ba := below_alloc w8 (.cells #[.int .i64 W, .int .i64 S, .int .i64 B, .int .i64 T, .slice (some ⟨be, 0, none⟩) len len] 48)
    have C9 := Lib.hid (cfg_next (cfg_next C7.out hb8) ba)
    have E9 := Lib.hid (cfg_new w8 W S B T (.slice (some ⟨be, 0, none⟩) len len))
    have hbe2 : be < w8.heap.size := heap_lt hnums
    have RE : Hid (RowI (w8.alloc (.cells #[.int .i64 W, .int .i64 S, .int .i64 B, .int .i64 T, .slice (some ⟨be, 0, none⟩) len len] 48)) (some ⟨be, 0, none⟩) len f) := (row_block hnums (by rw [List.take_of_length_le (by simp [nums_len])])).next ba
    have lN7 := cfg_lt C7.out
    have B9 : Hid (Below N w (w8.alloc (.cells #[.int .i64 W, .int .i64 S, .int .i64 B, .int .i64 T, .slice (some ⟨be, 0, none⟩) len len] 48))) := (B7.out.trans (hb8.mono (Nat.le_of_lt lN7))).trans (ba.mono (Nat.le_of_lt (Nat.lt_of_lt_of_le lN7 hb8.size)))
    have hn8 : N < w8.heap.size := Nat.lt_of_lt_of_le lN7 hb8.size
    have hn8' : ¬ N = w8.heap.size := by omega
    clear hnums hb8 ba c0 c1 c2 c3 c4 C7 B7
    go_wp2_with fail
    generalize w8.alloc (.cells #[.int .i64 W, .int .i64 S, .int .i64 B, .int .i64 T, .slice (some ⟨be, 0, none⟩) len len] 48) = w9 at *
    generalize hY : w8.heap.size = Y at *
    obtain ⟨c0, c1, c2, c3, c4⟩ := cfg_cells C9.out
    obtain ⟨d0, d1, d2, d3, d4⟩ := cfg_cells E9.out
    have zE := cfg_frz E9.out
    have hw0 : IntKind.i64.wrap (W + 1) = W + 1 := by rw [IntKind.wrap_i64]; omega
    have hw1 : IntKind.i64.wrap (S + 1) = S + 1 := by rw [IntKind.wrap_i64]; omega
    have hw2 : IntKind.i64.wrap (B + 1) = B + 1 := by rw [IntKind.wrap_i64]; omega
    obtain ⟨W', hW⟩ : ∃ x, x = (W + 1) / 2 := ⟨_, rfl⟩
    obtain ⟨S', hS⟩ : ∃ x, x = (S + 1) / 2 := ⟨_, rfl⟩
    obtain ⟨Q', hB⟩ : ∃ x, x = (B + 1) / 2 := ⟨_, rfl⟩
    obtain ⟨T', hT⟩ : ∃ x, x = T / 2 := ⟨_, rfl⟩
    have hv0 : IntKind.i64.wrap ((W + 1).tdiv 2) = W' := by rw [IntKind.wrap_i64, Int.tdiv_eq_ediv_of_nonneg (by omega)]; omega
    have hv1 : IntKind.i64.wrap ((S + 1).tdiv 2) = S' := by rw [IntKind.wrap_i64, Int.tdiv_eq_ediv_of_nonneg (by omega)]; omega
    have hv2 : IntKind.i64.wrap ((B + 1).tdiv 2) = Q' := by rw [IntKind.wrap_i64, Int.tdiv_eq_ediv_of_nonneg (by omega)]; omega
    have hv3 : IntKind.i64.wrap (T.tdiv 2) = T' := by rw [IntKind.wrap_i64, Int.tdiv_eq_ediv_of_nonneg (by omega)]; omega
    have HM' : Hid (mayB W' S' Q' T' len f = true) := by rw [hW, hS, hB, hT]; exact may_half hm.out
    obtain ⟨v1, v2⟩ : 0 ≤ W' ∧ W' ≤ W := by omega
    obtain ⟨v3, v4⟩ : 0 ≤ S' ∧ S' ≤ S := by omega
    obtain ⟨v5, v6⟩ : 0 ≤ T' ∧ T' ≤ T := by omega
    clear hW hS hB hT
    have hNY : N ≠ Y := hn8'
    go_region_held3 (fun w' => w'.cell? ⟨N, 0, none⟩ = some (.int .i64 W) ∧ w'.cell? ⟨N, 1, none⟩ = some (.int .i64 S) ∧ w'.cell? ⟨N, 2, none⟩ = some (.int .i64 B) ∧ w'.cell? ⟨N, 3, none⟩ = some (.int .i64 T)) (first | (go_keep; done) | with_reducible exact ⟨setD1 hNY _ c0, setD1 hNY _ c1, setD1 hNY _ c2, setD1 hNY _ c3⟩ | with_reducible exact ⟨setD2 hNY _ _ c0, setD2 hNY _ _ c1, setD2 hNY _ _ c2, setD2 hNY _ _ c3⟩ | with_reducible exact ⟨setD3 hNY _ _ _ c0, setD3 hNY _ _ _ c1, setD3 hNY _ _ _ c2, setD3 hNY _ _ _ c3⟩ | with_reducible exact ⟨setD4 hNY _ _ _ _ c0, setD4 hNY _ _ _ _ c1, setD4 hNY _ _ _ _ c2, setD4 hNY _ _ _ _ c3⟩) (fail)
    have CZ : Hid (Cfg5 ((((w9.setCell ⟨Y, 0, none⟩ (.int .i64 W')).setCell ⟨Y, 1, none⟩ (.int .i64 S')).setCell ⟨Y, 2, none⟩ (.int .i64 Q')).setCell ⟨Y, 3, none⟩ (.int .i64 T')) N W S B T (.slice (some ⟨b0, off, none⟩) len cap)) := (set_other hNY _).trans ((set_other hNY _).trans ((set_other hNY _).trans ((set_other hNY _).trans C9.out)))
    have EZ := Lib.hid (cfg_set4 E9.out W' S' Q' T')
    have hbY : be ≠ Y := by omega
    have hNY' : N ≤ Y := by omega
    have RZ := Lib.hid ((((RE.out.aside (j := 0) hbY (.int .i64 W')).aside (j := 1) hbY (.int .i64 S')).aside (j := 2) hbY (.int .i64 Q')).aside (j := 3) hbY (.int .i64 T'))
    have BZ := Lib.hid ((((B9.out.setCell (p := ⟨Y, 0, none⟩) hNY' (.int .i64 W')).setCell (p := ⟨Y, 1, none⟩) hNY' (.int .i64 S')).setCell (p := ⟨Y, 2, none⟩) hNY' (.int .i64 Q')).setCell (p := ⟨Y, 3, none⟩) hNY' (.int .i64 T'))
    clear C9 E9 RE B9 c0 c1 c2 c3 c4 d0 d1 d2 d3 d4 zE hv0 hv1 hv2 hv3 hw0 hw1 hw2
    generalize (((w9.setCell ⟨Y, 0, none⟩ (.int .i64 W')).setCell ⟨Y, 1, none⟩ (.int .i64 S')).setCell ⟨Y, 2, none⟩ (.int .i64 Q')).setCell ⟨Y, 3, none⟩ (.int .i64 T') = wz at *
    obtain ⟨c0, c1, c2, c3, c4⟩ := cfg_cells CZ.out
    obtain ⟨d0, d1, d2, d3, d4⟩ := cfg_cells EZ.out
    have lNz : N < wz.drew.drew.heap.size := cfg_lt CZ.out
    have lYz : Y < wz.drew.drew.heap.size := cfg_lt EZ.out
    have HKZ := Lib.hid (check_any W' S' Q' T' (some ⟨be, 0, none⟩) len len f wz.drew.drew RZ.out (by omega))
    rw [HM'.out, HE1.out] at HKZ
    have HBE := Lib.hid (fun w => bound_any W' S' Q' T' (.slice (some ⟨be, 0, none⟩) len len) w (by omega) (by omega) (by omega) (by omega) (by omega) (by omega))
    have HBC := Lib.hid (fun w => bound_any W S B T (.slice (some ⟨b0, off, none⟩) len cap) w (by omega) (by omega) (by omega) (by omega) (by omega) (by omega))
    have hmono : boundI W' S' T' ≤ boundI W S T := bound_mono v1 v2 v3 v4 v5 v6
    generalize boundI W' S' T' = R' at *
    generalize boundI W S T = R at *
    go_wp2_with fail
    go_region_held3 (fun w' => (w'.cell? ⟨Y, 0, none⟩ = some (.int .i64 W') ∧ w'.cell? ⟨Y, 1, none⟩ = some (.int .i64 S') ∧ w'.cell? ⟨Y, 2, none⟩ = some (.int .i64 Q') ∧ w'.cell? ⟨Y, 3, none⟩ = some (.int .i64 T') ∧ w'.cell? ⟨Y, 4, none⟩ = some (.slice (some ⟨be, 0, none⟩) len len)) ∧ w'.cell? ⟨N, 0, none⟩ = some (.int .i64 W) ∧ w'.cell? ⟨N, 1, none⟩ = some (.int .i64 S) ∧ w'.cell? ⟨N, 2, none⟩ = some (.int .i64 B) ∧ w'.cell? ⟨N, 3, none⟩ = some (.int .i64 T) ∧ w'.cell? ⟨N, 4, none⟩ = some (.slice (some ⟨b0, off, none⟩) len cap)) (first | (go_keep; done) | with_reducible exact ⟨⟨pd0, pd1, pd2, pd3, pd4⟩, pc0, pc1, pc2, pc3, pc4⟩ | with_reducible exact ⟨⟨qd0, qd1, qd2, qd3, qd4⟩, qc0, qc1, qc2, qc3, qc4⟩ | with_reducible exact ⟨⟨rd0, rd1, rd2, rd3, rd4⟩, rc0, rc1, rc2, rc3, rc4⟩) ((first | (go_at_call 31; refine HKZ.out.mono ?_; rintro e wP ⟨rfl, hbP⟩; have pd0 := (hbP.cell (p := ⟨Y, 0, none⟩) lYz).trans d0; have pc0 := (hbP.cell (p := ⟨N, 0, none⟩) lNz).trans c0; have pd1 := (hbP.cell (p := ⟨Y, 1, none⟩) lYz).trans d1; have pc1 := (hbP.cell (p := ⟨N, 1, none⟩) lNz).trans c1; have pd2 := (hbP.cell (p := ⟨Y, 2, none⟩) lYz).trans d2; have pc2 := (hbP.cell (p := ⟨N, 2, none⟩) lNz).trans c2; have pd3 := (hbP.cell (p := ⟨Y, 3, none⟩) lYz).trans d3; have pc3 := (hbP.cell (p := ⟨N, 3, none⟩) lNz).trans c3; have pd4 := (hbP.cell (p := ⟨Y, 4, none⟩) lYz).trans d4; have pc4 := (hbP.cell (p := ⟨N, 4, none⟩) lNz).trans c4; have lNP : N < wP.heap.size := Nat.lt_of_lt_of_le lNz hbP.size; have lYP : Y < wP.heap.size := Nat.lt_of_lt_of_le lYz hbP.size) | (go_at_call 32; refine (HBC.out wQ).mono ?_; rintro e wR ⟨rfl, hbR⟩; have rd0 := (hbR.cell (p := ⟨Y, 0, none⟩) lYQ).trans qd0; have rc0 := (hbR.cell (p := ⟨N, 0, none⟩) lNQ).trans qc0; have rd1 := (hbR.cell (p := ⟨Y, 1, none⟩) lYQ).trans qd1; have rc1 := (hbR.cell (p := ⟨N, 1, none⟩) lNQ).trans qc1; have rd2 := (hbR.cell (p := ⟨Y, 2, none⟩) lYQ).trans qd2; have rc2 := (hbR.cell (p := ⟨N, 2, none⟩) lNQ).trans qc2; have rd3 := (hbR.cell (p := ⟨Y, 3, none⟩) lYQ).trans qd3; have rc3 := (hbR.cell (p := ⟨N, 3, none⟩) lNQ).trans qc3; have rd4 := (hbR.cell (p := ⟨Y, 4, none⟩) lYQ).trans qd4; have rc4 := (hbR.cell (p := ⟨N, 4, none⟩) lNQ).trans qc4; have lNR : N < wR.heap.size := Nat.lt_of_lt_of_le lNQ hbR.size; have lYR : Y < wR.heap.size := Nat.lt_of_lt_of_le lYQ hbR.size) | (go_at_call 32; refine (HBE.out wP).mono ?_; rintro e wQ ⟨rfl, hbQ⟩; have qd0 := (hbQ.cell (p := ⟨Y, 0, none⟩) lYP).trans pd0; have qc0 := (hbQ.cell (p := ⟨N, 0, none⟩) lNP).trans pc0; have qd1 := (hbQ.cell (p := ⟨Y, 1, none⟩) lYP).trans pd1; have qc1 := (hbQ.cell (p := ⟨N, 1, none⟩) lNP).trans pc1; have qd2 := (hbQ.cell (p := ⟨Y, 2, none⟩) lYP).trans pd2; have qc2 := (hbQ.cell (p := ⟨N, 2, none⟩) lNP).trans pc2; have qd3 := (hbQ.cell (p := ⟨Y, 3, none⟩) lYP).trans pd3; have qc3 := (hbQ.cell (p := ⟨N, 3, none⟩) lNP).trans pc3; have qd4 := (hbQ.cell (p := ⟨Y, 4, none⟩) lYP).trans pd4; have qc4 := (hbQ.cell (p := ⟨N, 4, none⟩) lNP).trans pc4; have lNQ : N < wQ.heap.size := Nat.lt_of_lt_of_le lNP hbQ.size; have lYQ : Y < wQ.heap.size := Nat.lt_of_lt_of_le lYP hbQ.size)))
    have BY : Hid (Below N w wR) := ((below_drew2 (w1 := wz.drew) BZ.out.drew (Nat.le_of_lt lNz) hbP).trans (hbQ.mono (Nat.le_of_lt lNP))).trans (hbR.mono (Nat.le_of_lt lNQ))
    clear pd0 pd1 pd2 pd3 pd4 pc0 pc1 pc2 pc3 pc4 qd0 qd1 qd2 qd3 qd4 qc0 qc1 qc2 qc3 qc4 rd0 rd1 rd2 rd3 rd4 rc0 rc1 rc2 rc3 rc4 hbP hbQ hbR
    go_wp2_with fail
    go_ret
    exact ⟨rfl, by rw [hN]; exact BY.out⟩

theorem fewer_no (W S B T : Int) (m : Nat) (ad : Option Addr) (len cap : Nat) (f : Nat → Int) (w : World) (hr : Hid (RowI w ad len f)) (hl : len < 9223372036854775808) (hm : Hid (mayB W S B T len f = false)) :
    Calls Try.prog 12 #[.agg #[.int .i64 W, .int .i64 S, .int .i64 B, .int .i64 T, .slice ad len cap], .int .u8 m] w fun e w' => e = .returned (.bool true) ∧ Below w.heap.size w w' := by
  have B0 := Lib.hid (below_alloc w (.cells #[.int .i64 W, .int .i64 S, .int .i64 B, .int .i64 T, .slice ad len cap] 48))
  have C0 := Lib.hid (cfg_new w W S B T (.slice ad len cap))
  go_enter Try.func12, Try.ntmps12
  go_wp2_with fail
  generalize w.alloc (.cells #[.int .i64 W, .int .i64 S, .int .i64 B, .int .i64 T, .slice ad len cap] 48) = w0 at *
  refine (speaks4 _).mono ?_
  rintro e wa ⟨rfl, hb⟩
  have C1 := Lib.hid (cfg_next C0.out hb)
  have B1 := Lib.hid (below_after B0.out hb)
  clear hb C0
  obtain ⟨c0, c1, c2, c3, c4⟩ := cfg_cells C1.out
  go_wp2_with fail
  refine (rmay_any W S B T ad len cap f _ (hr.out.next B1.out) hl).mono ?_
  rintro e wb ⟨he, hb⟩
  have he' : e = .returned (.bool false) := by rw [he, hm.out]
  subst he'
  have B2 := Lib.hid (below_after B1.out hb)
  clear hb he
  go_wp2_with fail
  go_ret
  exact ⟨rfl, B2.out⟩

theorem fewer_walk (W S B T : Int) (m : Nat) (ad : Option Addr) (len cap : Nat) (f : Nat → Int) (w : World) (hr : RowI w ad len f) (hlc : len ≤ cap) (hcm : cap ≤ 9223372036854775807) (hm8 : m ≤ 255) :
    Calls Try.prog 12 #[.agg #[.int .i64 W, .int .i64 S, .int .i64 B, .int .i64 T, .slice ad len cap], .int .u8 m] w fun e w' => e = .returned (.bool true) ∧ Below w.heap.size w w' := by
  rcases h : mayB W S B T len f with _ | _
  · exact fewer_no W S B T m ad len cap f w hr (by omega) h
  · exact fewer_yes W S B T m ad len cap f w hr h hlc hcm hm8

end Go.Proofs.Ytnjgajkcoahefaa
