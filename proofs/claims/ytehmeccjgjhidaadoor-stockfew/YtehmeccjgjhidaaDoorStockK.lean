/-
  The walk of fullest.
-/
import Derived.Test.YtehmeccjgjhidaaDoorStockJ
namespace Go.Proofs.YtehmeccjgjhidaaDoor
open Go.RowKit Go.Maps Go.Sort

set_option maxRecDepth 100000 in
set_option maxHeartbeats 8000000 in
theorem fullest_any (sb clb pb : Nat) (W S B T : Int) (len : Nat) (f : Nat → Int) (n : Nat) (P : Nat → List (Int × Int)) (L : Nat → Value) (M : Nat → Nat) (k : Nat) (w : World) (h : Hid (Stk w sb clb pb W S B T len f n P L M)) (hk : k < len) (hne : P k ≠ []) (few : (P k).length ≤ 100000) :
    Calls Tryd.prog 19 #[.pointer (some ⟨pb, k * 2, none⟩)] w fun e w' => ∃ s, e = .returned (.int .i64 s) ∧ Full (P k) s ∧ Below w.heap.size w w' := by
  have C0 : Hid (CnM (w.alloc (.map #[] 0)) w.heap.size 0 ((P k).take 0)) := CnM.made w
  have K0 := Lib.hid (h.out.next (box1 w (.map #[] 0)))
  have B0 := Lib.hid (box1 w (.map #[] 0))
  have HNE := Lib.hid hne
  clear hne
  obtain ⟨p0, _⟩ := K0.out.cell hk
  obtain ⟨la, lc, hv⟩ := ORow.form (h.out.lst k hk)
  rw [hv] at p0
  have HV := Lib.hid hv
  have hmk := @run_makeMap Tryd.prog
  clear hv
  go_enter Tryd.func19, Tryd.ntmps19
  go_wp2_with fail
  clear p0 hmk
  generalize w.alloc (.map #[] 0) = w1 at *
  generalize hN : w.heap.size = N at *
  go_loopw [16] (fun u16 wr => ∃ i : Nat, i ≤ (P k).length ∧ u16 = .int .i64 (i : Nat) ∧ Hid (Stk wr sb clb pb W S B T len f n P L M) ∧ Hid (CnM wr N i ((P k).take i)) ∧ Hid (Below N w wr)) (fun u16 _ => (P k).length - (intOf u16).toNat)
  case atStart => exact ⟨0, by omega, rfl, K0, C0, B0⟩
  case round =>
    obtain ⟨i, hi, rfl, K1, C1, B1⟩ := hrel
    by_cases hlt : i < (P k).length
    · have l3 : (i : Int) < ((P k).length : Int) := by omega
      obtain ⟨x, hx⟩ : ∃ x, (P k)[i]? = some x := ⟨_, List.getElem?_eq_getElem hlt⟩
      obtain ⟨lb, cap, hv2, hcell, _⟩ := ORow.at bkEnc (K1.out.lst k hk) hx
      rw [HV.out] at hv2
      simp only [Value.slice.injEq, true_and] at hv2
      obtain ⟨rfl, rfl⟩ := hv2
      have y0 : wr.cell? ⟨lb, i * 2, none⟩ = some (.int .i64 x.1) := hcell 0 _ rfl
      have y1 : wr.cell? ⟨lb, i * 2 + 1, none⟩ = some (.int .i64 x.2) := hcell 1 _ rfl
      have hbd := ((K1.out.bd k hk).2 x (List.mem_of_getElem? hx)).1
      have ht : (P k).take (i + 1) = (P k).take i ++ [x] := by rw [List.take_add_one, hx]; rfl
      have HT := Lib.hid ht
      clear hx hcell ht
      have bb := box1 wr (.cells #[.int .i64 x.1, .int .i64 x.2] 32)
      have XB : Hid (Two5 (wr.alloc (.cells #[.int .i64 x.1, .int .i64 x.2] 32)) wr.heap.size 32 x.1 x.2) := Two5.new wr _ _ _
      have K2 := Lib.hid (K1.out.next bb)
      have C2 := Lib.hid (C1.out.next bb)
      have B2 : Hid (Below N w _) := B1.out.trans (bb.mono (by have := B1.out.size; omega))
      clear bb K1 C1 B1
      go_upto_region 5 with fail
      clear y0 y1
      generalize wr.alloc (.cells #[.int .i64 x.1, .int .i64 x.2] 32) = w2 at *
      generalize wr.heap.size = MB at *
      have x0 := two_c0 XB.out
      have lk := C2.out.look hbd
      have hle := nOf_le ((P k).take i) x.1
      rw [List.length_take] at hle
      obtain ⟨w3, hup, q1, q2⟩ := C2.out.put (x := x) hbd (by omega) (by rw [List.length_take]; omega)
      rw [← HT.out] at q1
      generalize nOf ((P k).take i) x.1 = c at *
      have wc : IntKind.i64.wrap ((c : Int) + 1) = (c : Int) + 1 := by rw [IntKind.wrap_i64]; omega
      have C3 := Lib.hid q1
      have B3 : Hid (Below N w w3) := B2.out.grown q2 (by have := B2.out.size; omega) (fun k e => by cases e; exact Nat.le_refl _)
      have hbm : w2.heap[N]? ≠ none := by obtain ⟨D, ⟨es, clk, hb, _⟩, _⟩ := C2.out; rw [hb]; simp
      have K3 : Hid (Stk w3 sb clb pb W S B T len f n P L M) := h.out.next (by rw [hN]; exact B3.out)
      clear q1 q2 hbm
      go_wp2_with fail
      go_roundw
      case rel => exact ⟨i + 1, by omega, by push_cast; rfl, K3, C3, B3⟩
      case measure => simp [intOf]; omega
    · obtain rfl : i = (P k).length := by omega
      obtain ⟨D, hD⟩ := C1.out
      rw [List.take_length] at hD
      obtain ⟨hown, _, hat0, hhas⟩ := hD
      have AT := Lib.hid hat0
      have HH := Lib.hid hhas
      clear hat0 hhas
      go_wp2_with (first
        | (at_range; refine wpList_range_own _ rfl _ 65 rfl 3 3 sp_law Tryd.underlying65 _ N _ D rfl hown ?_; intro w0 hrg0 hg0 hs0)
        | go_in)
      go_frame
      have hsz : wr.heap.size = wr.heap.size := rfl
      have BR : Hid (N ≤ wr.heap.size) := Lib.hid (by have := B1.out.size; omega)
      have B3 : Hid (Below N w w0) := B1.out.grown hg0 (by have := B1.out.size; omega) (fun k e => by cases e)
      clear hg0 hs0 hsz hown K1 C1 B1 B0 C0 K0
      generalize wr.heap.size = R at *
      go_loopw [6, 7] (fun u6 u7 wx => ∃ (left : Lit → Bool) (cnt : Nat) (su mo : Int), u6 = .int .i64 su ∧ u7 = .int .i64 mo ∧ wx.ranges Tryd.prog 3 (plainElem Tryd.prog 3) N R (P k).length D left cnt ∧ Hid (Seen (P k) left su mo) ∧ Hid (Below N w wx) ∧ (∀ i, left (.int .i64 i) = true → has D (.int .i64 i) = true)) (fun _ _ wx => wx.rangeLeft N R)
      case atStart => exact ⟨_, _, 0, 0, rfl, rfl, hrg0, Lib.hid (.inl ⟨rfl, rfl, fun i h0 => by rw [HH.out]; simpa using h0⟩), B3, fun i h => h⟩
      case round =>
        obtain ⟨left, cnt, su, mo, rfl, rfl, hrg, HS, B4', hsub⟩ := hrel
        go_wp2_with (first
          | (at_next; refine wpList_next_ranges_ii _ rfl _ rfl 3 3 .i64 .i64 sp_law Tryd.underlying3 Tryd.underlying3 N R (P k).length _ _ _ rfl hrg ?_ ?_)
          | go_in)
        · intro _ hl0
          go_wp2_with fail
          go_ret
          exact ⟨su, rfl, seen_all HS.out hl0 HNE.out, by rw [hN]; exact B4'.out⟩
        · intro x c w1 cnt1 hwx hwc hlx hat hrg1 hlt2 hg1 hs1 hen
          have hc : c = (nOf (P k) x : Nat) := by
            have := (hat (.lit (.int .i64 0))).symm.trans (AT.out x hwx)
            simpa using this
          have h0 : 0 < nOf (P k) x := by
            have := hsub x hlx
            rw [HH.out] at this
            simpa using this
          have B4 : Hid (Below N w w1) := B4'.out.grown hg1 (by have := B4'.out.size; omega) (fun k e => by cases e; exact BR.out)
          have hsub1 : ∀ i, (fun z => left z && !z.sameKey (.int .i64 x)) (.int .i64 i) = true → has D (.int .i64 i) = true := fun i h => by
            simp only [Bool.and_eq_true] at h
            exact hsub i h.1
          have HC := Lib.hid hc
          have H0 := Lib.hid h0
          clear hat hsub hg1 hs1 B4' hc h0
          by_cases g1 : mo < c
          · have e1 : decide (mo < c) = true := by simpa using g1
            have SN := Lib.hid (seen_yes HS.out hwx H0.out (.inl (by rw [← HC.out]; exact g1)))
            rw [← HC.out] at SN
            go_wp2_with fail
            go_roundw
            case rel => exact ⟨_, cnt1, x, c, rfl, rfl, hrg1, Lib.hid (SN.out), B4, hsub1⟩
            case measure => rw [hrg1.left_eq, hrg.left_eq]; exact hlt2
          · have e1 : decide (mo < c) = false := by simpa using g1
            by_cases g2 : c = mo
            · have e2 : (c == mo) = true := by simpa using g2
              by_cases g3 : x < su
              · have e3 : decide (x < su) = true := by simpa using g3
                have SN := Lib.hid (seen_yes HS.out hwx H0.out (.inr ⟨by rw [← HC.out]; exact g2, g3⟩))
                rw [← HC.out] at SN
                clear g2
                go_wp2_with fail
                go_roundw
                case rel => exact ⟨_, cnt1, x, c, rfl, rfl, hrg1, Lib.hid (SN.out), B4, hsub1⟩
                case measure => rw [hrg1.left_eq, hrg.left_eq]; exact hlt2
              · have e3 : decide (x < su) = false := by simpa using g3
                have SN := Lib.hid (seen_no HS.out H0.out (by rw [← HC.out]; omega))
                clear g2
                go_wp2_with fail
                go_roundw
                case rel => exact ⟨_, cnt1, su, mo, rfl, rfl, hrg1, Lib.hid (SN.out), B4, hsub1⟩
                case measure => rw [hrg1.left_eq, hrg.left_eq]; exact hlt2
            · have e2 : (c == mo) = false := by simpa using g2
              have SN := Lib.hid (seen_no HS.out H0.out (by rw [← HC.out]; omega))
              clear g2
              go_wp2_with fail
              go_roundw
              case rel => exact ⟨_, cnt1, su, mo, rfl, rfl, hrg1, Lib.hid (SN.out), B4, hsub1⟩
              case measure => rw [hrg1.left_eq, hrg.left_eq]; exact hlt2
end Go.Proofs.YtehmeccjgjhidaaDoor
