/-
  The walk of the statement SpanApart: whatever is put, and goes, those that are there lie apart.
-/
import Derived.Test.YtjlklkaaonfpdaaWSpanAsks
namespace Go.Proofs.Ytjlklkaaonfpdaa
open Go.RowKit Go.Sort

theorem good_apart {l : List Iv} (g : Good l) {i j : Nat} {a b : Iv} (hij : i < j) (hb : l[i]? = some b) (ha : l[j]? = some a) : ovB a b = false := by
  have h1 := g.lt hij hb ha
  have h2 := g.ok b (List.mem_of_getElem? hb)
  unfold ovB
  rw [decide_eq_false (show ¬ a.1 ≤ b.1 by omega), decide_eq_false (show ¬ a.1 - b.1 < b.2 by omega)]
  simp

set_option maxHeartbeats 1000000 in
theorem apart6_out (ad : Option Addr) (len cap : Nat) (bd : Option Addr) (dlen dcap : Nat) (w : World) (h : 60 < len ∨ 60 < dlen) :
    Calls Try.prog 10 #[.slice ad len cap, .slice bd dlen dcap] w fun e w' => e = .returned (.bool true) ∧ Below w.heap.size w w' := by
  have HH := Lib.hid h
  clear h
  go_enter Try.func10, Try.ntmps10
  go_wp2_with fail
  refine (speaks6 _).mono ?_
  rintro e w2 ⟨rfl, hb⟩
  have B2 := Lib.hid hb
  clear hb
  by_cases h1 : 60 < len
  · have d1 : decide (60 < len) = true := by simpa using h1
    have d1' : decide ((60 : Int) < (len : Int)) = true := by simp; omega
    go_wp2_with fail
    go_ret
    exact ⟨rfl, B2.out⟩
  · have d1 : decide (60 < len) = false := by simpa using h1
    have d1' : decide ((60 : Int) < (len : Int)) = false := by simp; omega
    have h2 : 60 < dlen := HH.out.resolve_left h1
    have d2 : decide (60 < dlen) = true := by simpa using h2
    have d2' : decide ((60 : Int) < (dlen : Int)) = true := by simp; omega
    go_wp2_with fail
    go_ret
    exact ⟨rfl, B2.out⟩

set_option maxRecDepth 20000 in
set_option maxHeartbeats 4000000 in
theorem apart6_in (ad : Option Addr) (len cap : Nat) (A B : Nat → Int) (bd : Option Addr) (dlen dcap : Nat) (f : Nat → Int) (w : World) (h1 : len ≤ 60) (h2 : dlen ≤ 60) (hr : Hid (RowIv w ad len A B)) (hd : Hid (RowI w bd dlen f)) :
    Calls Try.prog 10 #[.slice ad len cap, .slice bd dlen dcap] w fun e w' => e = .returned (.bool true) ∧ Below w.heap.size w w' := by
  have d1 : decide (60 < len) = false := by simp; omega
  have d1' : decide ((60 : Int) < (len : Int)) = false := by simp; omega
  have d2 : decide (60 < dlen) = false := by simp; omega
  have d2' : decide ((60 : Int) < (dlen : Int)) = false := by simp; omega
  have HWN : Hid (∀ w', Below w.heap.size w w' → RowIv w' ad len A B) := fun w' hb => hr.out.next hb
  have HWD : Hid (∀ w', Below w.heap.size w w' → RowI w' bd dlen f) := fun w' hb => hd.out.next hb
  go_enter Try.func10, Try.ntmps10
  go_wp2_with fail
  refine (speaks6 _).mono ?_
  rintro e w3 ⟨rfl, hb⟩
  have S4 : Hid (Sm w (w3.alloc (.cells #[.slice none 0 0] 54)) w3.heap.size (fun _ => False) []) := Sm.start hb (fun k hk => hk.elim)
  clear hb
  go_wp2_with fail
  generalize w3.alloc (.cells #[.slice none 0 0] 54) = w4 at *
  generalize w3.heap.size = g at *
  go_loopw [25] (fun u wx => ∃ (j : Nat) (L : List Iv), j ≤ len ∧ L.length ≤ j ∧ u = .int .i64 j ∧ Sm w wx g (fun _ => False) L) (fun u _ => len - (intOf u).toNat)
  case atStart => exact ⟨0, [], Nat.zero_le _, Nat.le_refl _, rfl, S4.out⟩
  case round =>
    obtain ⟨j, L, hj, hL, rfl, s⟩ := hrel
    have S5 := Lib.hid s
    clear s S4
    by_cases h : j < len
    · have l2 : (j : Int) < (len : Int) := by omega
      have HR := Lib.hid (HWN.out _ S5.out.b)
      have HD := Lib.hid (HWD.out _ S5.out.b)
      obtain ⟨b, off, rfl, e0, e1⟩ := HR.out.at h
      obtain ⟨a1, HA1⟩ : ∃ a1, Hid (A j = a1) := ⟨_, rfl⟩
      obtain ⟨a2, HA2⟩ : ∃ a2, Hid (B j = a2) := ⟨_, rfl⟩
      rw [HA1.out] at e0
      rw [HA2.out] at e1
      have S6 := Lib.hid (S5.out.alloc (.cells #[.int .i64 a1, .int .i64 a2] 56))
      have E6 := Lib.hid (Duo6.new wr a1 a2)
      go_wp2_with fail
      generalize wr.alloc (.cells #[.int .i64 a1, .int .i64 a2] 56) = w6 at *
      generalize wr.heap.size = M at *
      clear e0 e1
      obtain ⟨e0, e1⟩ := E6.out.cells
      refine (far_any a1 a2 _).mono ?_
      rintro e w7 ⟨rfl, hb⟩
      have S7 := Lib.hid (S6.out.next hb)
      have E7 := Lib.hid (E6.out.next hb)
      clear hb S6 E6 e0 e1 S5
      obtain ⟨e0, e1⟩ := E7.out.cells
      rcases hfa : farB a1 with _ | _
      · clear hfa
        go_wp2_with fail
        refine (sm_put S7 a1 a2 (by omega)).mono ?_
        rintro e w8 ⟨rfl, s, k⟩
        have S8 := Lib.hid (s.weak (G := fun _ => False) (fun k h => h.elim))
        have hln := len_put L (a1, a2)
        clear s k S7 E7 e0 e1
        generalize putL L (a1, a2) = L2 at *
        by_cases hjd : j < dlen
        · have dj : decide (j < dlen) = true := by simpa using hjd
          have dj' : decide ((j : Int) < (dlen : Int)) = true := by simp; omega
          have l3 : (j : Int) < (dlen : Int) := by omega
          obtain ⟨b2, off2, rfl, e2⟩ := (HWD.out _ S8.out.b).at hjd
          generalize f j = z at *
          go_wp2_with fail
          refine (sm_drop S8 z).mono ?_
          rintro e w9 ⟨rfl, s, k⟩
          have S9 := Lib.hid s
          have hln2 := len_drop L2 z
          clear s k S8 e2
          go_wp2_with fail
          go_roundw
          case rel => exact ⟨j + 1, _, by omega, by omega, rfl, S9.out⟩
          case measure => simp [intOf]; omega
        · have dj : decide (j < dlen) = false := by simpa using hjd
          have dj' : decide ((j : Int) < (dlen : Int)) = false := by simp; omega
          go_wp2_with fail
          go_roundw
          case rel => exact ⟨j + 1, _, by omega, by omega, rfl, S8.out⟩
          case measure => simp [intOf]; omega
      · clear hfa
        have S8 := Lib.hid (S7.out.weak (G := fun _ => False) (fun k h => h.elim))
        go_wp2_with fail
        go_roundw
        case rel => exact ⟨j + 1, L, by omega, by omega, rfl, S8.out⟩
        case measure => simp [intOf]; omega
    · obtain rfl : j = len := by omega
      have HGD := Lib.hid S5.out.gd
      have few := S5.out.few
      clear HWN hr HWD hd
      go_wp2_with fail
      refine (sm_all S5).mono ?_
      rintro e w5 ⟨v', rfl, hrw, hb, _⟩
      have B6 := Lib.hid (S5.out.next hb).b
      clear hb S5
      rcases hrw.cases with ⟨rfl, rfl⟩ | ⟨b, c, cur, rfl, hB⟩
      · clear hrw
        go_wp2_with fail
        go_loop [47] (fun u => u = .int .i64 0) (fun _ => 0)
        case atStart => rfl
        case round =>
          subst hrel
          go_wp2_with fail
          go_ret
          exact ⟨rfl, B6.out⟩
      · have HB := Lib.hid hB
        have hlc : L.length ≤ c := hB.len
        have hc63 : c ≤ 9223372036854775807 := by have := hB.big; unfold maxLen at this; omega
        clear hB hrw
        go_wp2_with fail
        go_loopw [47] (fun u wx => ∃ i : Nat, i ≤ L.length ∧ u = .int .i64 i ∧ Below w5.heap.size w5 wx) (fun u _ => L.length - (intOf u).toNat)
        case atStart => exact ⟨0, Nat.zero_le _, rfl, Below.refl _ _⟩
        case round =>
          obtain ⟨i, hi, rfl, hbx⟩ := hrel
          have BX := Lib.hid hbx
          clear hbx
          by_cases hil : i < L.length
          · have l3 : (i : Int) < (L.length : Int) := by omega
            obtain ⟨x, hx⟩ : ∃ x, L[i]? = some x := ⟨L[i], List.getElem?_eq_getElem hil⟩
            have HBX := Lib.hid (HB.out.next (BX.out.block b HB.out.lt))
            obtain ⟨c0, c1⟩ := HBX.out.two hx
            have ok := HGD.out.ok x (List.mem_of_getElem? hx)
            obtain ⟨x1, x2⟩ := x
            simp only at ok c0 c1
            have k1 : decide (x2 < 1) = false := by simp; omega
            have k2 : decide (x1 < 0) = false := by simp; omega
            have hic : i ≤ c := by omega
            have hic' : (i : Int) ≤ (c : Int) := by omega
            have HX := Lib.hid hx
            have b9 := below_alloc wr (.cells #[.int .i64 x1, .int .i64 x2] 56)
            have B9 := Lib.hid (below_after BX.out b9)
            have E9 := Lib.hid (Duo6.new wr x1 x2)
            clear b9 hx
            go_wp2_with fail
            generalize wr.alloc (.cells #[.int .i64 x1, .int .i64 x2] 56) = w9 at *
            generalize wr.heap.size = M at *
            clear c0 c1
            go_loopw [64] (fun u wx => ∃ k : Nat, k ≤ i ∧ u = .int .i64 k ∧ Below w5.heap.size w5 wx ∧ Duo6 wx M x1 x2) (fun u _ => i - (intOf u).toNat)
            case atStart => exact ⟨0, Nat.zero_le _, rfl, B9.out, E9.out⟩
            case round =>
              obtain ⟨k, hk, rfl, hby, hdy⟩ := hrel
              have BY := Lib.hid hby
              have DY := Lib.hid hdy
              clear hby hdy
              by_cases hki : k < i
              · have l4 : (k : Int) < (i : Int) := by omega
                obtain ⟨y, hy⟩ : ∃ y, L[k]? = some y := ⟨L[k], List.getElem?_eq_getElem (by omega)⟩
                have HBY := Lib.hid (HB.out.next (BY.out.block b HB.out.lt))
                obtain ⟨c0, c1⟩ := HBY.out.two hy
                have oky := HGD.out.ok y (List.mem_of_getElem? hy)
                have HAP := Lib.hid (good_apart HGD.out hki hy HX.out)
                obtain ⟨y1, y2⟩ := y
                simp only at oky c0 c1
                clear hy
                have b10 := below_alloc wr (.cells #[.int .i64 y1, .int .i64 y2] 56)
                have B10 := Lib.hid (below_after BY.out b10)
                have E10 := Lib.hid (Duo6.new wr y1 y2)
                have D10 := Lib.hid (DY.out.next b10)
                obtain ⟨g0, g1⟩ := D10.out.cells
                obtain ⟨g2, g3⟩ := E10.out.cells
                obtain ⟨g4, g5⟩ := DY.out.cells
                clear b10
                go_wp2_with fail
                generalize wr.alloc (.cells #[.int .i64 y1, .int .i64 y2] 56) = w10 at *
                refine (rover_any x1 x2 y1 y2 _ (by omega) (by omega) (by omega) (by omega)).mono ?_
                rintro e w11 ⟨he, hb⟩
                obtain rfl : e = .returned (.bool false) := by rw [he, HAP.out]
                have B11 := Lib.hid (below_after B10.out hb)
                have D11 := Lib.hid (D10.out.next hb)
                clear hb he c0 c1 g0 g1 g2 g3 g4 g5
                go_wp2_with fail
                go_roundw
                case rel => exact ⟨k + 1, by omega, rfl, B11.out, D11.out⟩
                case measure => simp [intOf]; omega
              · obtain rfl : k = i := by omega
                go_wp2_with fail
                go_roundw
                case rel => exact ⟨k + 1, by omega, rfl, BY.out⟩
                case measure => simp [intOf]; omega
          · obtain rfl : i = L.length := by omega
            have HE := Lib.hid (B6.out.trans (BX.out.mono B6.out.size))
            go_wp2_with fail
            go_ret
            exact ⟨rfl, HE.out⟩

theorem apart6_walk (ad : Option Addr) (len cap : Nat) (A B : Nat → Int) (bd : Option Addr) (dlen dcap : Nat) (f : Nat → Int) (w : World) (hr : RowIv w ad len A B) (hd : RowI w bd dlen f) :
    Calls Try.prog 10 #[.slice ad len cap, .slice bd dlen dcap] w fun e w' => e = .returned (.bool true) ∧ Below w.heap.size w w' := by
  by_cases h : 60 < len ∨ 60 < dlen
  · exact apart6_out ad len cap bd dlen dcap w h
  · exact apart6_in ad len cap A B bd dlen dcap f w (by omega) (by omega) hr hd

end Go.Proofs.Ytjlklkaaonfpdaa
