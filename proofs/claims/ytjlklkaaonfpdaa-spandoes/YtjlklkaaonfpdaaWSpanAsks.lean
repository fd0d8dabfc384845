/-
  The walk of the statement SpanAsks: whoever asks changes nothing.
-/
import Derived.Test.YtjlklkaaonfpdaaSpan12
import Derived.Test.YtjlklkaaonfpdaaRowIv
namespace Go.Proofs.Ytjlklkaaonfpdaa
open Go.RowKit Go.Sort

theorem get_over {l : List Iv} (g : Good l) {x y : Int} (h : (getO l x).isSome = true) (hy : 1 ≤ y) : overB l (x, y) = true := by
  obtain ⟨z, hz⟩ := Option.isSome_iff_exists.1 h
  obtain ⟨hm, he⟩ := get_some hz
  have ok := g.ok z hm
  simp only [overB, hy, decide_true, Bool.true_and, List.any_eq_true]
  refine ⟨z, hm, ?_⟩
  simp only [shB, Bool.and_eq_true, decide_eq_true_eq]
  omega
theorem getV_form (o : Option Iv) : ∃ a b : Int, getV o = .tuple #[.agg #[.int .i64 a, .int .i64 b], .bool o.isSome] := by
  cases o with
  | none => exact ⟨0, 0, rfl⟩
  | some x => exact ⟨x.1, x.2, rfl⟩
theorem put_false {l : List Iv} {x : Iv} (h : putB l x = false) : putL l x = l := by unfold putL; rw [h]; rfl
theorem put_true {l : List Iv} {x : Iv} (h : putB l x = true) : putL l x = insL x l := by unfold putL; rw [h]; rfl
theorem put_may {l : List Iv} {x : Iv} (h : putB l x = true) : 0 ≤ x.1 ∧ x.1 ≤ 1099511627776 ∧ 1 ≤ x.2 ∧ x.2 ≤ 1099511627776 := by
  simp [putB, mayI] at h; omega
theorem duo_kp {F : Nat → Prop} {w w' : World} {N : Nat} {a b : Int} (h : Duo6 w N a b) (k : Kp F w w') (hF : F N) : Duo6 w' N a b := (k.block N hF).trans h

set_option maxHeartbeats 1000000 in
theorem asks_out (ad : Option Addr) (len cap : Nat) (x y : Int) (w : World) (h : 60 < len ∨ farB x = true) (hl : len < 9223372036854775808) :
    Calls Try.prog 13 #[.slice ad len cap, .agg #[.int .i64 x, .int .i64 y]] w fun e w' => e = .returned (.bool true) ∧ Below w.heap.size w w' := by
  have B0 := Lib.hid (below_alloc w (.cells #[.int .i64 x, .int .i64 y] 56))
  have D0 := Lib.hid (Duo6.new w x y)
  have HH := Lib.hid h
  clear h
  go_enter Try.func13, Try.ntmps13
  go_wp2_with fail
  generalize w.alloc (.cells #[.int .i64 x, .int .i64 y] 56) = w1 at *
  generalize hN : w.heap.size = N at *
  refine (speaks6 _).mono ?_
  rintro e w2 ⟨rfl, hb⟩
  have B2 := Lib.hid (Below.trans B0.out (hb.mono (by rw [← hN]; exact B0.out.size)))
  have D2 := Lib.hid (D0.out.next hb)
  clear hb B0 D0
  obtain ⟨c0, c1⟩ := D2.out.cells
  by_cases h1 : 60 < len
  · have d1 : decide (60 < len) = true := by simpa using h1
    have d1' : decide ((60 : Int) < (len : Int)) = true := by simp; omega
    go_wp2_with fail
    go_ret
    exact ⟨rfl, by first | exact B2.out | (rw [hN]; exact B2.out)⟩
  · have d1 : decide (60 < len) = false := by simpa using h1
    have d1' : decide ((60 : Int) < (len : Int)) = false := by simp; omega
    have hf : farB x = true := HH.out.resolve_left h1
    have HF := Lib.hid hf
    clear hf
    go_wp2_with fail
    refine (far_any x y _).mono ?_
    rintro e w3 ⟨he, hb⟩
    obtain rfl : e = .returned (.bool true) := by rw [he, HF.out]
    have B3 := Lib.hid (Below.trans B2.out (hb.mono (by rw [← hN]; exact B2.out.size)))
    clear hb he
    go_wp2_with fail
    go_ret
    exact ⟨rfl, by first | exact B3.out | (rw [hN]; exact B3.out)⟩

set_option maxRecDepth 20000 in
set_option maxHeartbeats 4000000 in
theorem asks_in (ad : Option Addr) (len cap : Nat) (A B : Nat → Int) (x y : Int) (w : World) (h1 : len ≤ 60) (hf : Hid (farB x = false)) (hr : Hid (RowIv w ad len A B)) :
    Calls Try.prog 13 #[.slice ad len cap, .agg #[.int .i64 x, .int .i64 y]] w fun e w' => e = .returned (.bool true) ∧ Below w.heap.size w w' := by
  have B0 := Lib.hid (below_alloc w (.cells #[.int .i64 x, .int .i64 y] 56))
  have D0 := Lib.hid (Duo6.new w x y)
  have d1 : decide (60 < len) = false := by simp; omega
  have d1' : decide ((60 : Int) < (len : Int)) = false := by simp; omega
  obtain ⟨x1, x2⟩ := far_no hf.out
  have HWN : Hid (∀ w', Below w.heap.size w w' → RowIv w' ad len A B) := fun w' hb => hr.out.next hb
  go_enter Try.func13, Try.ntmps13
  go_wp2_with fail
  generalize w.alloc (.cells #[.int .i64 x, .int .i64 y] 56) = w1 at *
  generalize hN : w.heap.size = N at *
  refine (speaks6 _).mono ?_
  rintro e w2 ⟨rfl, hb⟩
  have B2 := Lib.hid (Below.trans B0.out (hb.mono (by rw [← hN]; exact B0.out.size)))
  have D2 := Lib.hid (D0.out.next hb)
  clear hb B0 D0
  obtain ⟨c0, c1⟩ := D2.out.cells
  go_wp2_with fail
  refine (far_any x y _).mono ?_
  rintro e w3 ⟨he, hb⟩
  obtain rfl : e = .returned (.bool false) := by rw [he, hf.out]
  have B3 := Lib.hid (Below.trans B2.out (hb.mono (by rw [← hN]; exact B2.out.size)))
  have D3 := Lib.hid (D2.out.next hb)
  clear hb he B2 D2 c0 c1
  have lN := D3.out.lt
  have b4 := below_alloc w3 (.cells #[.slice none 0 0] 54)
  have D4 := Lib.hid (D3.out.next b4)
  have S4 : Hid (Sm w (w3.alloc (.cells #[.slice none 0 0] 54)) w3.heap.size (fun k => k = N) []) := Sm.start (by rw [hN]; exact B3.out) (fun k hk => by rw [hk]; exact lN)
  clear b4 B3 D3 lN
  go_wp2_with fail
  generalize w3.alloc (.cells #[.slice none 0 0] 54) = w4 at *
  generalize w3.heap.size = g at *
  go_loopw [6, 27] (fun s u wx => ∃ (j : Nat) (L : List Iv), j ≤ len ∧ L.length ≤ j ∧ s = .int .i64 (sumL L) ∧ u = .int .i64 j ∧ Sm w wx g (fun k => k = N) L ∧ Duo6 wx N x y) (fun _ u _ => len - (intOf u).toNat)
  case atStart => exact ⟨0, [], Nat.zero_le _, Nat.le_refl _, rfl, rfl, S4.out, D4.out⟩
  case round =>
    obtain ⟨j, L, hj, hL, rfl, rfl, s, d⟩ := hrel
    have S5 := Lib.hid s
    have D5 := Lib.hid d
    clear s d S4 D4
    have hsum := sum_bd S5.out.gd
    have hs1 : 0 ≤ sumL L := hsum.1
    have hs2 : sumL L ≤ 65970697666560 := by omega
    clear hsum
    by_cases h : j < len
    · have l2 : (j : Int) < (len : Int) := by omega
      have HR := Lib.hid (HWN.out _ (by rw [← hN]; exact S5.out.b))
      obtain ⟨b, off, rfl, e0, e1⟩ := HR.out.at h
      obtain ⟨a1, HA1⟩ : ∃ a1, Hid (A j = a1) := ⟨_, rfl⟩
      obtain ⟨a2, HA2⟩ : ∃ a2, Hid (B j = a2) := ⟨_, rfl⟩
      rw [HA1.out] at e0
      rw [HA2.out] at e1
      have S6 := Lib.hid (S5.out.alloc (.cells #[.int .i64 a1, .int .i64 a2] 56))
      have E6 := Lib.hid (Duo6.new wr a1 a2)
      have D6 := Lib.hid (D5.out.next (below_alloc wr (.cells #[.int .i64 a1, .int .i64 a2] 56)))
      generalize hsl : sumL L = sl at *
      have HSL := Lib.hid hsl
      clear hsl
      go_wp2_with fail
      generalize wr.alloc (.cells #[.int .i64 a1, .int .i64 a2] 56) = w6 at *
      generalize wr.heap.size = M at *
      clear e0 e1
      obtain ⟨e0, e1⟩ := E6.out.cells
      refine (far_any a1 a2 _).mono ?_
      rintro e w7 ⟨rfl, hb⟩
      have S7 := Lib.hid (S6.out.next hb)
      have E7 := Lib.hid (E6.out.next hb)
      have D7 := Lib.hid (D6.out.next hb)
      clear hb S6 E6 D6 e0 e1 S5 D5
      obtain ⟨e0, e1⟩ := E7.out.cells
      rcases hfa : farB a1 with _ | _
      · clear hfa
        go_wp2_with fail
        refine (sm_put S7 a1 a2 (by omega)).mono ?_
        rintro e w8 ⟨rfl, s, k⟩
        have E8 := Lib.hid (duo_kp E7.out k (.inr rfl))
        have D8 := Lib.hid (duo_kp D7.out k (.inl rfl))
        have S8 := Lib.hid (s.weak (G := fun k => k = N) (fun k h => .inl h))
        have HLN := Lib.hid (len_put L (a1, a2))
        clear s k S7 E7 D7 e0 e1
        obtain ⟨e0, e1⟩ := E8.out.cells
        rcases hp : putB L (a1, a2) with _ | _
        · have HPL := Lib.hid (put_false hp)
          clear hp
          go_wp2_with fail
          go_roundw
          case rel => exact ⟨j + 1, L, by omega, by omega, by rw [HSL.out], rfl, by have := S8.out; rw [HPL.out] at this; exact this, D8.out⟩
          case measure => simp [intOf]; omega
        · have HPL := Lib.hid (put_true hp)
          have hm := put_may hp
          have HSI := Lib.hid (sum_ins (a1, a2) L)
          have hm3 : 1 ≤ a2 := hm.2.2.1
          have hm4 : a2 ≤ 1099511627776 := hm.2.2.2
          clear hp hm
          go_wp2_with fail
          go_roundw
          case rel => exact ⟨j + 1, insL (a1, a2) L, by omega, by rw [len_ins]; omega, by rw [HSI.out, HSL.out], rfl, by have := S8.out; rw [HPL.out] at this; exact this, D8.out⟩
          case measure => simp [intOf]; omega
      · clear hfa
        have S8 := Lib.hid (S7.out.weak (G := fun k => k = N) (fun k h => .inl h))
        go_wp2_with fail
        go_roundw
        case rel => exact ⟨j + 1, L, by omega, by omega, by rw [HSL.out], rfl, S8.out, D7.out⟩
        case measure => simp [intOf]; omega
    · obtain rfl : j = len := by omega
      clear HWN hr
      generalize hsl : sumL L = sl at *
      have HSL := Lib.hid hsl
      have HGO := Lib.hid (fun h => get_over S5.out.gd (x := x) (y := y) h)
      clear hsl
      go_wp2_with fail
      refine (sm_all S5).mono ?_
      rintro e w5 ⟨v', rfl, hrw, hb, _⟩
      have S6 := Lib.hid (S5.out.next hb)
      have D6 := Lib.hid (D5.out.next hb)
      obtain ⟨p, c, rfl, _, _⟩ := row_len hrw
      clear hb hrw S5 D5
      obtain ⟨c0, c1⟩ := D6.out.cells
      go_wp2_with fail
      refine (sm_over S6 x y x1 x2).mono ?_
      rintro e w6 ⟨rfl, hb⟩
      have S7 := Lib.hid (S6.out.next hb)
      have D7 := Lib.hid (D6.out.next hb)
      clear hb S6 D6 c0 c1
      obtain ⟨c0, c1⟩ := D7.out.cells
      go_wp2_with fail
      refine (sm_get S7 x).mono ?_
      rintro e w7 ⟨rfl, hb⟩
      have S8 := Lib.hid (S7.out.next hb)
      have D8 := Lib.hid (D7.out.next hb)
      clear hb S7 D7 c0 c1
      obtain ⟨ga, gb, hgf⟩ := getV_form (getO L x)
      have HGF := Lib.hid hgf
      rw [hgf]
      clear hgf
      obtain ⟨bb, HBB⟩ : ∃ bb, Hid ((getO L x).isSome = bb) := ⟨_, rfl⟩
      obtain ⟨aa, HAA⟩ : ∃ aa, Hid (overB L (x, y) = aa) := ⟨_, rfl⟩
      rw [HBB.out, HAA.out]
      have b8 := below_alloc w7 (.cells #[.int .i64 ga, .int .i64 gb] 56)
      have S9 := Lib.hid (S8.out.next b8)
      have D9 := Lib.hid (D8.out.next b8)
      clear b8
      obtain ⟨c0, c1⟩ := D8.out.cells
      obtain ⟨c2, c3⟩ := D9.out.cells
      go_wp2_with fail
      generalize w7.alloc (.cells #[.int .i64 ga, .int .i64 gb] 56) = w8 at *
      generalize w7.heap.size = n8 at *
      refine (sm_over S9 x y x1 x2).mono ?_
      rintro e w9 ⟨rfl, hb⟩
      rw [HAA.out]
      have S10 := Lib.hid (S9.out.next hb)
      have D10 := Lib.hid (D9.out.next hb)
      clear hb S9 D9 c0 c1 c2 c3 S8 D8
      obtain ⟨c0, c1⟩ := D10.out.cells
      go_wp2_with fail
      refine (sm_get S10 x).mono ?_
      rintro e w10 ⟨rfl, hb⟩
      rw [HGF.out, HBB.out]
      have S11 := Lib.hid (S10.out.next hb)
      have D11 := Lib.hid (D10.out.next hb)
      clear hb S10 D10 c0 c1
      have b8 := below_alloc w10 (.cells #[.int .i64 ga, .int .i64 gb] 56)
      have S12 := Lib.hid (S11.out.next b8)
      have D12 := Lib.hid (D11.out.next b8)
      clear b8 S11 D11
      obtain ⟨c0, c1⟩ := D12.out.cells
      go_wp2_with fail
      generalize w10.alloc (.cells #[.int .i64 ga, .int .i64 gb] 56) = w11 at *
      generalize w10.heap.size = n11 at *
      refine (sm_all S12).mono ?_
      rintro e w12 ⟨v', rfl, hrw, hb, _⟩
      have S13 := Lib.hid (S12.out.next hb)
      have D13 := Lib.hid (D12.out.next hb)
      obtain ⟨p, c, rfl, _, _⟩ := row_len hrw
      clear hb hrw S12 D12 c0 c1
      obtain ⟨c0, c1⟩ := D13.out.cells
      go_wp2_with fail
      refine (sm_bytes S13).mono ?_
      rintro e w13 ⟨rfl, hb⟩
      rw [HSL.out]
      have S14 := Lib.hid (S13.out.next hb)
      have D14 := Lib.hid (D13.out.next hb)
      clear hb S13 D13 c0 c1
      obtain ⟨c0, c1⟩ := D14.out.cells
      cases bb
      · go_wp2_with fail
        go_ret
        exact ⟨rfl, by first | exact S14.out.b | (rw [hN]; exact S14.out.b) | simpa [hN] using S14.out.b⟩
      · by_cases hy : y < 1
        · have dy : decide (y < 1) = true := by simpa using hy
          go_wp2_with fail
          go_ret
          exact ⟨rfl, by first | exact S14.out.b | (rw [hN]; exact S14.out.b) | simpa [hN] using S14.out.b⟩
        · have dy : decide (y < 1) = false := by simpa using hy
          obtain rfl : aa = true := by rw [← HAA.out]; exact HGO.out HBB.out (by omega)
          go_wp2_with fail
          go_ret
          exact ⟨rfl, by first | exact S14.out.b | (rw [hN]; exact S14.out.b) | simpa [hN] using S14.out.b⟩

theorem asks_walk (ad : Option Addr) (len cap : Nat) (A B : Nat → Int) (x y : Int) (w : World) (hr : RowIv w ad len A B) :
    Calls Try.prog 13 #[.slice ad len cap, .agg #[.int .i64 x, .int .i64 y]] w fun e w' => e = .returned (.bool true) ∧ Below w.heap.size w w' := by
  have hl : len < 9223372036854775808 := by have := hr.1; unfold maxLen at this; omega
  by_cases h : 60 < len ∨ farB x = true
  · exact asks_out ad len cap x y w h hl
  · exact asks_in ad len cap A B x y w (by omega) (by show farB x = false; cases hf : farB x <;> simp_all) hr

end Go.Proofs.Ytjlklkaaonfpdaa
