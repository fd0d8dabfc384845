/-
  The document's Spill.
-/
import Derived.Test.YtagacljfpakgnaaDoorStockZ
namespace Go.Proofs.YtagacljfpakgnaaDoor
open Go.RowKit Go.Sort
attribute [local go_sem] Oper.semAt_some

theorem getD_snd (l : List (Int × Int)) : (fun j => (l.map (·.2)).getD j 0) = fun j => (l.getD j (0, 0)).2 := by
  funext j
  simp only [List.getD_eq_getElem?_getD, List.getElem?_map]
  cases l[j]? <;> rfl
theorem rof_row (v : Value) (l : List Int) (w : World) (h : Hid (IRow w v l)) (few : l.length ≤ 1000000) :
    Calls Tryd.prog 43 #[v] w fun e w' => e = .returned (.int .u64 (ofTo (fun j => l.getD j 0) l.length : Nat)) ∧ w = w' := by
  rcases ORow.cases h.out with ⟨rfl, rfl⟩ | ⟨b, cap, cur, rfl, hb, h3, h4, h5, h6⟩
  · exact rof_nil none 0 w
  · refine rof_any b 0 l.length cap (fun j => l.getD j 0) w (by omega) (show ∀ j, j < l.length → _ from fun j hj => ?_)
    obtain ⟨x, hx⟩ : ∃ x, l[j]? = some x := ⟨_, List.getElem?_eq_getElem hj⟩
    obtain ⟨b', cp, hv, hcell, _⟩ := ORow.at iEnc h.out hx
    simp only [Value.slice.injEq, Option.some.injEq, Addr.mk.injEq, and_true, true_and] at hv
    obtain ⟨rfl, rfl⟩ := hv
    have := hcell 0 _ rfl
    rw [List.getD_eq_getElem?_getD, hx]
    simpa using this
section
variable (W S B T : Int) (ad : Option Addr) (len cap : Nat) (f : Nat → Int)
set_option maxRecDepth 20000 in
set_option maxHeartbeats 2000000 in
theorem rspill_no (v : Value) (l : List (Int × Int)) (w : World) (h : Hid (BkRow w v l)) (b0 : 0 ≤ B) (b1 : B ≤ 1000) (hc : (l.length : Int) ≤ 2 * B) :
    Calls Tryd.prog 27 #[.agg #[.int .i64 W, .int .i64 S, .int .i64 B, .int .i64 T, .slice ad len cap], v] w fun e w' => e = .returned (.tuple #[v, .int .i64 0, .int .u64 0, .bool false]) ∧ Below w.heap.size w w' := by
  obtain ⟨va, vc, rfl⟩ := ORow.form h.out
  have HB := Lib.hid (below_alloc w (.cells #[.int .i64 W, .int .i64 S, .int .i64 B, .int .i64 T, .slice ad len cap] 24))
  have C0 := Lib.hid (cfg_new w W S B T (.slice ad len cap))
  have wb : IntKind.i64.wrap (2 * B) = 2 * B := by rw [IntKind.wrap_i64]; omega
  have g2 : decide ((l.length : Int) ≤ 2 * B) = true := by simpa using hc
  go_enter Tryd.func27, Tryd.ntmps27
  go_wp2_with fail
  generalize w.alloc (.cells #[.int .i64 W, .int .i64 S, .int .i64 B, .int .i64 T, .slice ad len cap] 24) = w0 at *
  obtain ⟨c0, c1, c2, c3, c4⟩ := cfg_cells C0.out
  go_wp2_with fail
  exact bodyPost_ret (v := .tuple #[.slice va l.length vc, .int .i64 0, .int .u64 0, .bool false]) (by simp [results, Tryd.results27, go_sem]) rfl ⟨rfl, HB.out⟩
set_option maxRecDepth 20000 in
set_option maxHeartbeats 8000000 in
theorem rspill_yes (v : Value) (l : List (Int × Int)) (s : Int) (w : World) (h : Hid (BkRow w v l)) (b0 : 0 ≤ B) (b1 : B ≤ 1000) (s0 : 1 ≤ S) (s1 : S ≤ 1000) (hc : 2 * B < (l.length : Int)) (few : l.length ≤ 1000000) (hF : Hid (Full l s)) (fi : Hid (Fine64 l)) (hl : Hid (∀ x ∈ l, 0 ≤ x.1 ∧ x.1 < S)) :
    Calls Tryd.prog 27 #[.agg #[.int .i64 W, .int .i64 S, .int .i64 B, .int .i64 T, .slice ad len cap], v] w fun e w' => ∃ v', e = .returned (.tuple #[v', .int .i64 s, .int .u64 (maskP (goes s l) : Nat), .bool true]) ∧ BkRow w' v' (stays s l) ∧ Below w.heap.size w w' ∧ ∀ b, v'.ownBlock = some b → w.heap.size ≤ b := by
  obtain ⟨Sn, rfl⟩ := Int.eq_ofNat_of_zero_le (show 0 ≤ S by omega)
  obtain ⟨va, vc, rfl⟩ := ORow.form h.out
  have HB := Lib.hid (below_alloc w (.cells #[.int .i64 W, .int .i64 (Sn : Nat), .int .i64 B, .int .i64 T, .slice ad len cap] 24))
  have C0 := Lib.hid (cfg_new w W (Sn : Nat) B T (.slice ad len cap))
  have wb : IntKind.i64.wrap (2 * B) = 2 * B := by rw [IntKind.wrap_i64]; omega
  have g2 : decide ((l.length : Int) ≤ 2 * B) = false := by simpa using hc
  go_enter Tryd.func27, Tryd.ntmps27
  go_wp2_with fail
  generalize w.alloc (.cells #[.int .i64 W, .int .i64 (Sn : Nat), .int .i64 B, .int .i64 T, .slice ad len cap] 24) = w0 at *
  obtain ⟨c0, c1, c2, c3, c4⟩ := cfg_cells C0.out
  go_wp2_with fail
  clear c0 c1 c2 c3 c4
  go_loopw [8, 9] (fun u8 u9 wr => ∃ (i : Nat) (b : Int), 1 ≤ i ∧ i ≤ Sn ∧ u8 = .int .i64 b ∧ u9 = .int .i64 (i : Nat) ∧ Hid (Best l i b) ∧ Hid (Below w.heap.size w wr) ∧ Hid (Below w0.heap.size w0 wr)) (fun _ u9 _ => Sn - (intOf u9).toNat)
  case atStart => exact ⟨1, 0, by omega, by omega, rfl, rfl, Lib.hid (best_one l), HB, Lib.hid (Below.refl _ _)⟩
  case round =>
    obtain ⟨i, b, i1, i2, rfl, rfl, hbst, B1, B1'⟩ := hrel
    have SR := Lib.hid (ORow.next h.out B1.out)
    have C1 := Lib.hid (cfg_next C0.out B1'.out)
    obtain ⟨c0, c1, c2, c3, c4⟩ := cfg_cells C1.out
    by_cases hlt : i < Sn
    · have l3 : (i : Int) < (Sn : Int) := by omega
      have wi : IntKind.i64.wrap ((i : Int) + 1) = ((i + 1 : Nat) : Int) := by rw [IntKind.wrap_i64]; omega
      have OF := Lib.hid (fun (t : Int) (y : World) (hb : Below wr.heap.size wr y) => rof12_any (.slice va l.length vc) l t y (Lib.hid (ORow.next SR.out hb)) few)
      have ni : (goes (i : Int) l).length ≤ l.length := goes_len _ _
      have nb : (goes b l).length ≤ l.length := goes_len _ _
      go_wp2_with fail
      refine (OF.out (i : Int) wr (Below.refl _ _)).mono ?_
      rintro e w2 ⟨v2, rfl, r1, r2⟩
      obtain ⟨a2, k2, rfl⟩ := ORow.form r1
      have B2 := Lib.hid r2
      clear r1 r2
      rw [List.length_map]
      go_wp2_with fail
      refine (OF.out b w2 B2.out).mono ?_
      rintro e w3 ⟨v3, rfl, r1, r2⟩
      obtain ⟨a3, k3, rfl⟩ := ORow.form r1
      have B3 := Lib.hid (B2.out.trans (r2.mono B2.out.size))
      clear r1 r2 B2
      rw [List.length_map]
      have BF := Lib.hid (B1.out.trans (B3.out.mono B1.out.size))
      have BF' := Lib.hid (B1'.out.trans (B3.out.mono B1'.out.size))
      by_cases g : nOf l b < nOf l (i : Int)
      · have gg : decide (((goes b l).length : Int) < ((goes (i : Int) l).length : Int)) = true := by unfold nOf at g; simpa using g
        go_wp2_with fail
        go_roundw
        case rel => exact ⟨i + 1, (i : Int), by omega, by omega, rfl, by first | rfl | rw [wi], Lib.hid (best_yes hbst.out g), BF, BF'⟩
        case measure => simp [intOf]; omega
      · have gg : decide (((goes b l).length : Int) < ((goes (i : Int) l).length : Int)) = false := by unfold nOf at g; simpa using g
        go_wp2_with fail
        go_roundw
        case rel => exact ⟨i + 1, b, by omega, by omega, rfl, by first | rfl | rw [wi], Lib.hid (best_no hbst.out g), BF, BF'⟩
        case measure => simp [intOf]; omega
    · obtain rfl : i = Sn := by omega
      obtain rfl : s = b := best_full hF.out hbst.out (by omega) hl.out
      go_wp2_with fail
      clear c0 c1 c2 c3 c4
      have hb1 := box1 wr (.cells #[] 32)
      have EM := Lib.hid (BkRow.empty wr)
      have BE : Hid (Below w.heap.size w _) := B1.out.trans (hb1.mono B1.out.size)
      have EO : Hid (∀ b, (Value.slice (some ⟨wr.heap.size, 0, none⟩) 0 0).ownBlock = some b → w.heap.size ≤ b) := Lib.hid (fun b e => by cases e; exact B1.out.size)
      clear hb1 B1' C1 B1 SR
      generalize wr.alloc (.cells #[] 32) = w1 at *
      go_loopw [10, 11] (fun u10 u11 wr => ∃ i : Nat, i ≤ l.length ∧ u11 = .int .i64 (i : Nat) ∧ Hid (BkRow wr u10 (stays s (l.take i))) ∧ Hid (Below w.heap.size w wr) ∧ Hid (∀ b, u10.ownBlock = some b → w.heap.size ≤ b)) (fun _ u11 _ => l.length - (intOf u11).toNat)
      case atStart => exact ⟨0, by omega, rfl, by simp only [List.take_zero]; exact EM, BE, EO⟩
      case round =>
        obtain ⟨i, hi, rfl, R1, B1, O1⟩ := hrel
        have SR := Lib.hid (ORow.next h.out B1.out)
        by_cases hlt : i < l.length
        · have l3 : (i : Int) < (l.length : Int) := by omega
          obtain ⟨y, hy⟩ : ∃ y, l[i]? = some y := ⟨_, List.getElem?_eq_getElem hlt⟩
          obtain ⟨lb, cp, hv2, hcell, _⟩ := ORow.at bkEnc SR.out hy
          simp only [Value.slice.injEq, true_and] at hv2
          obtain ⟨rfl, rfl⟩ := hv2
          have y0 : wr.cell? ⟨lb, i * 2, none⟩ = some (.int .i64 y.1) := hcell 0 _ rfl
          have y1 : wr.cell? ⟨lb, i * 2 + 1, none⟩ = some (.int .i64 y.2) := hcell 1 _ rfl
          have ht : Hid (l.take (i + 1) = l.take i ++ [y]) := Lib.hid (by rw [List.take_add_one, hy]; rfl)
          have tl : (stays s (l.take i)).length ≤ 1000000 := by
            have := stays_len s (l.take i)
            have : (l.take i).length ≤ l.length := by simp; omega
            omega
          clear hcell hy
          by_cases g : y.1 = s
          · have gb : (y.1 != s) = false := by simpa using g
            have hn : Hid (stays s (l.take (i + 1)) = stays s (l.take i)) := Lib.hid (by rw [ht.out, stays_app]; simp [g])
            go_wp2_with fail
            go_roundw
            case rel => exact ⟨i + 1, by omega, by push_cast; rfl, by rw [hn.out]; exact R1, B1, O1⟩
            case measure => simp [intOf]; omega
          · have gb : (y.1 != s) = true := by simpa using g
            have hn : Hid (stays s (l.take (i + 1)) = stays s (l.take i) ++ [y]) := Lib.hid (by rw [ht.out, stays_app]; simp [g])
            have hb2 := box1 wr (.cells #[.int .i64 y.1, .int .i64 y.2] 32)
            have BX : (wr.alloc (.cells #[.int .i64 y.1, .int .i64 y.2] 32)).heap[wr.heap.size]? = some (.cells (bkE y).toArray 32 (0, 0)) := heap_new wr _
            obtain ⟨v', wa, hrun, r1, r2, r3, bq, cq, hvq⟩ := BkRow.app (vb := wr.heap.size) (x := y) (ORow.next R1.out hb2) BX (by omega) 37
            have B2 := B1.out.trans (hb2.mono B1.out.size)
            have hf := fresh_of B2 O1.out r2 r3
            have B3 := Lib.hid hf.1
            have O3 := Lib.hid hf.2
            have R3 : Hid (BkRow wa v' (stays s (l.take (i + 1)))) := by rw [hn.out]; exact r1
            have HR := Lib.hid hrun
            clear hrun r1 r2 r3 hf B2 BX hb2 hvq
            go_wp2_with (at_builtin; refine wpList_append_by rfl _ _ 37 37 rfl u10 (.slice (some ⟨wr.heap.size, 0, none⟩) 1 1) (by rfl) (by rfl) HR.out ?_)
            go_roundw
            case rel => exact ⟨i + 1, by omega, by push_cast; rfl, R3, B3, O3⟩
            case measure => simp [intOf]; omega
        · obtain rfl : i = l.length := by omega
          rw [List.take_length] at R1
          have OF := Lib.hid (rof12_any (.slice va l.length vc) l s wr SR few)
          have ng : (goes s l).length ≤ l.length := goes_len _ _
          have fg : Hid (Fine64 (goes s l)) := Lib.hid (fun x hx => fi.out x (List.mem_filter.1 hx).1)
          go_wp2_with fail
          refine OF.out.mono ?_
          rintro e w2 ⟨v2, rfl, r1, r2⟩
          have B2 := Lib.hid (B1.out.trans (r2.mono B1.out.size))
          have R2 := Lib.hid (ORow.next R1.out r2)
          have MK := Lib.hid (rof_row v2 _ w2 (Lib.hid r1) (by rw [List.length_map]; omega))
          rw [getD_snd, List.length_map, ofTo_goes _ fg.out _ (Nat.le_refl _), List.take_length] at MK
          clear r1 r2 OF
          go_wp2_with fail
          refine MK.out.mono ?_
          rintro e w3 ⟨rfl, rfl⟩
          go_wp2_with fail
          exact bodyPost_ret (v := .tuple #[u10, .int .i64 s, .int .u64 (maskP (goes s l) : Nat), .bool true]) (by simp [results, Tryd.results27, go_sem]) rfl ⟨_, rfl, R2.out, B2.out, O1.out⟩
end
end Go.Proofs.YtagacljfpakgnaaDoor
