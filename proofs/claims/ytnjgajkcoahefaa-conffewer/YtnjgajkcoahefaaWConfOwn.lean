/-
  The walk of the statement ConfOwn: a copy has classes of its own.
-/
import Derived.Test.YtnjgajkcoahefaaConf6
namespace Go.Proofs.Ytnjgajkcoahefaa
open Go.RowKit

theorem RowI.aside {w : World} {g b j len : Nat} {f : Nat → Int} (h : RowI w (some ⟨g, 0, none⟩) len f) (hb : g ≠ b) (v : Value) : RowI (w.setCell ⟨b, j, none⟩ v) (some ⟨g, 0, none⟩) len f := fun h0 => by
  obtain ⟨b', off, e, hl, hc⟩ := h h0
  simp at e
  obtain ⟨rfl, rfl⟩ := e
  exact ⟨g, 0, rfl, by simpa [World.setCell] using hl, fun j' hj => (World.cell?_of_block (w := w) (set_other hb v)).trans (hc j' hj)⟩
theorem nums_cell {w : World} {b len j : Nat} {h : Nat → Int} (hn : w.heap[b]? = some (.cells (numsOf h len).toArray 3 (0, 0))) (hj : j < len) : w.cell? ⟨b, j, none⟩ = some (.int .i64 (h j)) := by
  rw [cell_of hn]
  simpa using nums_get (f := h) hj
theorem nums_store {w : World} {b len j : Nat} {h : Nat → Int} (hn : w.heap[b]? = some (.cells (numsOf h len).toArray 3 (0, 0))) (v : Int) : (w.setCell ⟨b, j, none⟩ (.int .i64 v)).heap[b]? = some (.cells (numsOf (fun i => if i = j then v else h i) len).toArray 3 (0, 0)) := by
  rw [set_of hn, ← nums_set]
  congr 2
  simp

theorem own_none (w : World) (B : Nat) (hB : w.heap.size = B) : (w.alloc (.cells #[] 3)).ownsRow 0 3 1 (.slice (some ⟨B, 0, none⟩) 0 0) 0 [] :=
  ⟨rfl, .inr ⟨B, 0, #[], rfl, Nat.zero_le _, by rw [← hB]; exact heap_at w _, Nat.le_refl _, Nat.zero_le _, rfl, rfl⟩⟩
theorem src_any {w : World} {ad : Option Addr} {len : Nat} {f : Nat → Int} (hr : RowI w ad len f) : ∀ a, ad = some a → ∀ j u, (numsOf f len)[j]? = some u → w.cell? (a.add j) = some u := by
  intro a ha j u hu
  obtain ⟨hj, rfl⟩ := nums_at hu
  obtain ⟨b, off, e, _, hc⟩ := hr (by omega)
  rw [ha] at e
  simp at e
  subst e
  rw [Addr.add_lit]
  exact hc j hj

/-- The state of the statement: the system, its copy, and the list of what it was. -/
structure OwnSt (w00 w : World) (N M g b len : Nat) (W S B T : Int) (ad : Option Addr) (cap : Nat) (f h : Nat → Int) (i : Nat) : Prop where
  c : Cfg5 w N W S B T (.slice ad len cap)
  d : Cfg5 w M W S B T (.slice (some ⟨b, 0, none⟩) len len)
  own : RowI w (some ⟨g, 0, none⟩) len f
  nums : w.heap[b]? = some (.cells (numsOf h len).toArray 3 (0, 0))
  rest : ∀ j, i ≤ j → h j = f j
  bel : Below N w00 w
  bg : g ≠ b
  bN : N < b
  bM : M ≠ b
theorem OwnSt.store {w00 w : World} {N M g b len : Nat} {W S B T : Int} {ad : Option Addr} {cap : Nat} {f h : Nat → Int} {i : Nat} (s : OwnSt w00 w N M g b len W S B T ad cap f h i) (v : Int) : OwnSt w00 (w.setCell ⟨b, i, none⟩ (.int .i64 v)) N M g b len W S B T ad cap f (fun k => if k = i then v else h k) (i + 1) :=
  ⟨(set_other (by have := s.bN; omega) _).trans s.c, (set_other s.bM _).trans s.d, s.own.aside s.bg _, nums_store s.nums v, fun j hj => by rw [if_neg (by omega)]; exact s.rest j (by omega), s.bel.setCell (Nat.le_of_lt s.bN) _, s.bg, s.bN, s.bM⟩

set_option maxRecDepth 20000 in
set_option maxHeartbeats 4000000 in
theorem own4_few (W S B T by_ : Int) (ad : Option Addr) (len cap : Nat) (f : Nat → Int) (w : World) (hr : Hid (RowI w ad len f)) (hl : len ≤ 100) (hnil : Hid (ad = none → len = 0 ∧ cap = 0)) :
    Calls Try.prog 11 #[.agg #[.int .i64 W, .int .i64 S, .int .i64 B, .int .i64 T, .slice ad len cap], .int .i64 by_] w fun e w' => e = .returned (.bool true) ∧ Below w.heap.size w w' := by
  obtain ⟨i0, hi, hz0, hz1, hz2⟩ := info_parts infoInt
  have B0 := Lib.hid (below_alloc w (.cells #[.int .i64 W, .int .i64 S, .int .i64 B, .int .i64 T, .slice ad len cap] 48))
  have C0 := Lib.hid (cfg_new w W S B T (.slice ad len cap))
  have l1 : (len : Int) ≤ 100 := by omega
  go_enter Try.func11, Try.ntmps11
  go_wp2_with fail
  generalize w.alloc (.cells #[.int .i64 W, .int .i64 S, .int .i64 B, .int .i64 T, .slice ad len cap] 48) = w0 at *
  generalize hN : w.heap.size = N at *
  refine (speaks4 _).mono ?_
  rintro e w1 ⟨rfl, hb⟩
  have C1 := Lib.hid (cfg_next C0.out hb)
  have B1 : Hid (Below N w w1) := B0.out.trans (hb.mono (Nat.le_of_lt (cfg_lt C0.out)))
  clear hb C0
  have ba := below_alloc w1 (.cells #[] 3)
  have CA := cfg_next C1.out ba
  have R1 : Hid (RowI (w1.alloc (.cells #[] 3)) ad len f) := (hr.out.next (by rw [hN]; exact B1.out)).next ba
  have OE := Lib.hid (own_none w1 _ rfl)
  obtain ⟨c0, c1, c2, c3, c4⟩ := cfg_cells C1.out
  obtain ⟨a0, a1, a2, a3, a4⟩ := cfg_cells CA
  have CAH := Lib.hid CA
  clear CA ba
  go_wp2_with (with_reducible refine wpList_append_gen _ rfl (.tmp 17) (.tmp 19) 46 rfl 3 i0 (.int .i64 0) 8 Try.underlying46 hi hz0 hz1 hz2 rfl w1.heap.size 0 0 [] rfl OE.out ad len cap (numsOf f len) rfl hnil.out (nums_len f len) (src_any R1.out) (nums_one f len) (by unfold maxLen; omega) (by omega) (w1.heap.size + 1) (by simp) ?_)
  intro g cap1 w2 hown hgrow hat hlt
  have hb2 : Below w1.heap.size w1 w2 := (below_alloc w1 _).grown hgrow (by simp) (fun k hk => by simp at hk; omega)
  have C2 := Lib.hid (cfg_next C1.out hb2)
  have B2 : Hid (Below N w w2) := B1.out.trans (hb2.mono (Nat.le_of_lt (cfg_lt C1.out)))
  have O2 := Lib.hid (row_own hown)
  have lN1 := cfg_lt C1.out
  have hgN : N < g := by omega
  clear hown hgrow hat hb2 c0 c1 c2 c3 c4 a0 a1 a2 a3 a4 CAH R1 OE
  obtain ⟨c0, c1, c2, c3, c4⟩ := cfg_cells C2.out
  go_wp2_with fail
  refine (copy_any W S B T ad len cap f _ (hr.out.next (by rw [hN]; exact B2.out)) (by omega)).mono ?_
  rintro e w3 ⟨b, rfl, hnums, hbb, hb3⟩
  have ba := below_alloc w3 (.cells #[.int .i64 W, .int .i64 S, .int .i64 B, .int .i64 T, .slice (some ⟨b, 0, none⟩) len len] 48)
  have hbw3 : b < w3.heap.size := heap_lt hnums
  have lN2 := cfg_lt C2.out
  have S3 : Hid (OwnSt w (w3.alloc (.cells #[.int .i64 W, .int .i64 S, .int .i64 B, .int .i64 T, .slice (some ⟨b, 0, none⟩) len len] 48)) N w3.heap.size g b len W S B T ad cap f f 0) :=
    ⟨cfg_next (cfg_next C2.out hb3) ba, cfg_new w3 W S B T _, (O2.out.next hb3).next ba, (ba.block b hbw3).trans hnums, fun _ _ => rfl, (B2.out.trans (hb3.mono (Nat.le_of_lt lN2))).trans (ba.mono (Nat.le_of_lt (Nat.lt_of_lt_of_le lN2 hb3.size))), by omega, by omega, by omega⟩
  obtain ⟨e0, e1, e2, e3, e4⟩ := cfg_cells S3.out.c
  obtain ⟨d0, d1, d2, d3, d4⟩ := cfg_cells S3.out.d
  have E3 := cfg_next C2.out hb3
  obtain ⟨k0, k1, k2, k3, k4⟩ := cfg_cells E3
  have hne : ¬ N = w3.heap.size := by have := cfg_lt E3; omega
  clear hnums hb3 ba c0 c1 c2 c3 c4 E3 C1 B1
  go_wp2_with fail
  generalize w3.alloc (.cells #[.int .i64 W, .int .i64 S, .int .i64 B, .int .i64 T, .slice (some ⟨b, 0, none⟩) len len] 48) = w4 at *
  generalize hM : w3.heap.size = M at *
  clear e0 e1 e2 e3 e4 d0 d1 d2 d3 d4 k0 k1 k2 k3 k4
  go_loopw [59] (fun u wr => ∃ (i : Nat) (h : Nat → Int), i ≤ len ∧ u = .int .i64 i ∧ OwnSt w wr N M g b len W S B T ad cap f h i) (fun u _ => len - (intOf u).toNat)
  case atStart => exact ⟨0, f, Nat.zero_le _, rfl, S3.out⟩
  case round =>
    obtain ⟨i, h, hi, rfl, st⟩ := hrel
    have ST := Lib.hid st
    clear st S3
    by_cases hlt2 : i < len
    · obtain ⟨b', off', he, ho⟩ := ST.out.own.at hlt2
      simp at he
      obtain ⟨rfl, rfl⟩ := he
      rw [Nat.zero_add] at ho
      have hb1 := nums_cell ST.out.nums hlt2
      rw [ST.out.rest i (Nat.le_refl _)] at hb1
      have hz := frozen_of (j := i) ST.out.nums
      obtain ⟨d0, d1, d2, d3, d4⟩ := cfg_cells ST.out.d
      have l2 : (i : Int) < (len : Int) := by omega
      generalize f i = z at *
      go_wp2_with fail
      go_roundw
      case rel => exact ⟨i + 1, _, by omega, by go_num, ST.out.store _⟩
      case measure => simp [intOf]; omega
    · obtain rfl : i = len := by omega
      have RR : Hid (RowI wr ad i f) := hr.out.next (by rw [hN]; exact ST.out.bel)
      go_wp2_with fail
      go_loop [82] (fun u => ∃ j : Nat, j ≤ i ∧ u = .int .i64 j) (fun u => i - (intOf u).toNat)
      case atStart => exact ⟨0, Nat.zero_le _, rfl⟩
      case round =>
        obtain ⟨j, hj, rfl⟩ := hrel
        by_cases hlt3 : j < i
        · obtain ⟨b', off', he, ho⟩ := ST.out.own.at hlt3
          simp at he
          obtain ⟨rfl, rfl⟩ := he
          rw [Nat.zero_add] at ho
          obtain ⟨b2, off2, rfl, hc2⟩ := RR.out.at hlt3
          obtain ⟨c0, c1, c2, c3, c4⟩ := cfg_cells ST.out.c
          have l2 : (j : Int) < (i : Int) := by omega
          generalize f j = z at *
          go_wp2_with fail
          go_round
          case rel => exact ⟨j + 1, by omega, by go_num⟩
          case measure => simp [intOf]; omega
        · obtain rfl : j = i := by omega
          go_wp2_with fail
          go_ret
          exact ⟨rfl, ST.out.bel⟩

set_option maxHeartbeats 1000000 in
theorem own4_many (W S B T by_ : Int) (ad : Option Addr) (len cap : Nat) (w : World) (hl : ¬ len ≤ 100) (hl2 : len < 9223372036854775808) :
    Calls Try.prog 11 #[.agg #[.int .i64 W, .int .i64 S, .int .i64 B, .int .i64 T, .slice ad len cap], .int .i64 by_] w fun e w' => e = .returned (.bool true) ∧ Below w.heap.size w w' := by
  have B0 := Lib.hid (below_alloc w (.cells #[.int .i64 W, .int .i64 S, .int .i64 B, .int .i64 T, .slice ad len cap] 48))
  have C0 := Lib.hid (cfg_new w W S B T (.slice ad len cap))
  have l1 : (100 : Int) < (len : Int) := by omega
  go_enter Try.func11, Try.ntmps11
  go_wp2_with fail
  generalize w.alloc (.cells #[.int .i64 W, .int .i64 S, .int .i64 B, .int .i64 T, .slice ad len cap] 48) = w0 at *
  refine (speaks4 _).mono ?_
  rintro e w1 ⟨rfl, hb⟩
  have C1 := Lib.hid (cfg_next C0.out hb)
  have B1 := Lib.hid (below_after B0.out hb)
  clear hb C0
  obtain ⟨c0, c1, c2, c3, c4⟩ := cfg_cells C1.out
  go_wp2_with fail
  go_ret
  exact ⟨rfl, B1.out⟩

theorem own4_walk (W S B T by_ : Int) (ad : Option Addr) (len cap : Nat) (f : Nat → Int) (w : World) (hr : RowI w ad len f) (hl2 : len < 9223372036854775808) (hnil : ad = none → len = 0 ∧ cap = 0) :
    Calls Try.prog 11 #[.agg #[.int .i64 W, .int .i64 S, .int .i64 B, .int .i64 T, .slice ad len cap], .int .i64 by_] w fun e w' => e = .returned (.bool true) ∧ Below w.heap.size w w' := by
  by_cases h : len ≤ 100
  · exact own4_few W S B T by_ ad len cap f w hr h hnil
  · exact own4_many W S B T by_ ad len cap w h hl2

end Go.Proofs.Ytnjgajkcoahefaa
