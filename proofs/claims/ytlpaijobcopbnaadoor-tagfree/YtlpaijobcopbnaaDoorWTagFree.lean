/-
  The walk of the statement TagFree: as soon as a word that held a tag holds another one, that tag is found again.
-/
import Derived.Test.YtlpaijobcopbnaaDoorRowB
namespace Go.Proofs.YtlpaijobcopbnaaDoor
open Go.RowKit Go.Sort Go.Maps

theorem not_ref_small {x : Nat} (h : x < 9223372036854775808) : ¬ isRef x := fun hr => by
  have h1 : (ofR (toX x) (toY x) (toZ x)).testBit 63 = x.testBit 63 := by rw [show ofR (toX x) (toY x) (toZ x) = x from hr]
  rw [again_bit, if_neg (by omega), Nat.testBit_lt_two_pow (show x < 2 ^ 63 from h)] at h1
  simp at h1
theorem mex_all {W K n : Nat} (hW : W < 256) (hK : K < 256) (hn : n ≤ 100000) : mex (seen (W : Int) (K : Int) (fun j => ofR W K j) n) = n := by
  have key : ∀ j z : Nat, j < n → (hit W K (ofR W K j) ∧ (toZ (ofR W K j) : Int) = z) → z = j := fun j z hj h => by
    have := ((ref_eq (W := W) (K := K) (t := j) hW hK (by omega)).1 rfl).2
    omega
  refine mex_eq (fun m hm => ?_) ?_
  · rw [seen_mem]
    exact ⟨m, hm, (ref_eq hW hK (by omega)).1 rfl⟩
  · rw [seen_mem]
    rintro ⟨j, hj, h⟩
    have := key j n hj h
    omega
theorem mex_but {W K n i x : Nat} (hW : W < 256) (hK : K < 256) (hn : n ≤ 100000) (hi : i < n) (hx : x < 256) : mex (seen (W : Int) (K : Int) (fun j => if j = i then x else ofR W K j) n) = i := by
  refine mex_eq (fun m hm => ?_) ?_
  · rw [seen_mem]
    refine ⟨m, by omega, ?_⟩
    simp only [if_neg (show ¬ m = i by omega)]
    exact (ref_eq hW hK (by omega)).1 rfl
  · rw [seen_mem]
    rintro ⟨j, hj, h1, h2⟩
    by_cases e : j = i
    · simp only [if_pos e] at h1
      exact not_ref_small (by omega) h1.1
    · simp only [if_neg e] at h2
      have := ((ref_eq (W := W) (K := K) (t := j) hW hK (by omega)).1 rfl).2
      omega
theorem of_nat (x y z : Nat) (w : World) (hR : Hid (RefAt w)) : Calls Tryd.prog 12 #[.agg #[.int .i64 x, .int .i64 y, .int .i64 z]] w fun e w' => e = .returned (.int .u64 (ofR x y z : Nat)) ∧ Below w.heap.size w w' := of_any x y z w hR

theorem fld2 (a b c : Int) (w : World) : (Instr.field 33 (.agg #[.int .i64 a, .int .i64 b, .int .i64 c]) 2).run Tryd.prog w = .ok (.int .i64 c) w := by kernel_rfl
/-- The memory whose words hold the tags from nought on. -/
structure Fr7 (w0 wr : World) (mg mh n W K : Nat) (ms : List Nat) (op : Nat) (kd a : Int) : Prop where
  m : MemAt wr mg mh ⟨ms, op, 0, kd, a⟩
  ml : ms.length = n
  ff : ∀ j, j < n → ofR W K j = ms.getD j 0
  aw : AllW ms
  b : Below w0.heap.size w0 wr
theorem getD_set {ms : List Nat} {i j x : Nat} (hi : i < ms.length) : (ms.set i x).getD j 0 = if j = i then x else ms.getD j 0 := by
  simp only [List.getD_eq_getElem?_getD, List.getElem?_set]
  by_cases e : j = i
  · subst e; simp [hi]
  · rw [if_neg (fun h => e h.symm), if_neg e]

set_option maxRecDepth 20000 in
set_option maxHeartbeats 1000000 in
theorem free_few (W K len cap : Nat) (ad : Option Addr) (f : Nat → Nat) (w : World) (hlen : len ≤ 60) (hW : W < 256) (hK : K < 256) (hr : Hid (RowU w ad len f)) (hR : Hid (RefAt w)) :
    Calls Tryd.prog 5 #[.int .u8 W, .int .u8 K, .slice ad len cap] w fun e w' => e = .returned (.bool true) ∧ Below w.heap.size w w' := by
  have l1 : (len : Int) ≤ 60 := by omega
  have FD := @fld2
  go_enter Tryd.func5, Tryd.ntmps5
  go_wp2_with fail
  refine (speaks7 _ hR).mono ?_
  rintro e w1 ⟨rfl, hb⟩
  have B1 := Lib.hid hb
  clear hb
  go_wp2_with fail
  refine (new8 len _ (by omega)).mono ?_
  rintro e w2 ⟨mg, mh, rfl, m2, hg, hh, hb⟩
  have B2 := Lib.hid (below_two B1.out hb)
  have hg' : w.heap.size ≤ mg := Nat.le_trans B1.out.size hg
  have hh' : w.heap.size ≤ mh := Nat.le_trans B1.out.size hh
  clear hb hg hh B1
  go_wp2_with fail
  go_loopw [29] (fun u wr => ∃ (k : Nat) (kd a : Int), k ≤ len ∧ u = .int .i64 k ∧ MemAt wr mg mh ⟨laidL (fun j => ofR W K j) 0 k len, k, 0, kd, a⟩ ∧ Below w.heap.size w wr) (fun u _ => len - (intOf u).toNat)
  case atStart => exact ⟨0, 0, 0, Nat.zero_le _, rfl, by rw [laidL_zero]; exact m2, B2.out⟩
  case round =>
    obtain ⟨k, kd, a, hk, rfl, hm, hB⟩ := hrel
    have BR := Lib.hid hB
    have mr := Lib.hid hm
    clear hB hm m2
    by_cases hl : k < len
    · have l3 : (k : Int) < (len : Int) := by omega
      have LS := Lib.hid (laidL_step (fun j => ofR W K j) 0 k len)
      rw [Nat.zero_add] at LS
      have LL := Lib.hid (show k < (laidL (fun j => ofR W K j) 0 k len).length by rw [laidL_len]; exact hl)
      have OF := Lib.hid fun w1 r1 => of_nat W K k w1 r1
      generalize laidL (fun j => ofR W K j) 0 k len = ms at *
      generalize ofR W K k = x at *
      go_wp2_with fail
      refine (OF.out _ (hR.out.next BR.out)).mono ?_
      rintro e w3 ⟨rfl, hb⟩
      have B3 := Lib.hid (below_two BR.out hb)
      have ST := Lib.hid (mstore (x := x) (mr.out.next hb) LL.out (by omega))
      clear hb mr
      go_wp2_with fail
      refine ST.out.mono ?_
      rintro e w4 ⟨rfl, m4, hx⟩
      rw [LS.out] at m4
      have M4 := Lib.hid m4
      have B4 := Lib.hid (below_else B3.out hg' hh' hx)
      clear hx m4 ST
      go_wp2_with fail
      go_roundw
      case rel => exact ⟨k + 1, 2, k, by omega, by go_num, M4.out, B4.out⟩
      case measure => simp [intOf]; omega
    · obtain rfl : k = len := by omega
      have F0 : Hid (Fr7 w wr mg mh k W K (laidL (fun j => ofR W K j) 0 k k) k kd a) := ⟨mr.out, laidL_len _ _ _ _, fun j hj => by rw [laidL_at _ _ _ _ _ hj, if_pos (by omega)]; rfl, laidL_all (fun j => ofR_lt _ _ _) 0 k k, BR.out⟩
      generalize laidL (fun j => ofR W K j) 0 k k = ms0 at *
      have MA := Lib.hid (mex_all (n := k) hW hK (by omega))
      clear mr BR
      go_wp2_with fail
      go_loopw [43] (fun u wq => ∃ (i op : Nat) (ms : List Nat) (kd a : Int), i ≤ k ∧ u = .int .i64 i ∧ op ≤ 100 + 200 * i ∧ Fr7 w wq mg mh k W K ms op kd a) (fun u _ => k - (intOf u).toNat)
      case atStart => exact ⟨0, k, ms0, kd, a, Nat.zero_le _, rfl, by omega, F0.out⟩
      case round =>
        obtain ⟨i, op, ms, kd, a, hi, rfl, hop, hF⟩ := hrel
        have FQ := Lib.hid hF
        clear hF F0
        by_cases hl2 : i < k
        · obtain ⟨b, off, rfl, hcell⟩ := (hr.out.next FQ.out.b).at hl2
          have hxs := hr.out.small i hl2
          have l3 : (i : Int) < (k : Int) := by omega
          have MB := Lib.hid (mex_but (n := k) (i := i) (x := f i) hW hK (by omega) hl2 hxs)
          generalize hxx : f i = x at *
          have MQ := Lib.hid FQ.out.m
          go_wp2_with fail
          refine (sc_new (A := 0) (W := W) (K := K) (fun j => ofR W K j) MQ.out (by omega)).mono ?_
          rintro e w5 ⟨ga, mba, rfl, h5, a1, a2, a3, a4, a5, hb⟩
          have S5 := Lib.hid h5
          have B5 := Lib.hid (below_two FQ.out.b hb)
          have OK : Hid (∀ wx, Below w.heap.size w wx → Ok7 w wx mg mh 0 k ms (fun j => ofR W K j)) := fun wx hb => ⟨by omega, by rw [FQ.out.ml]; omega, by rw [FQ.out.ml]; omega, fun j hj => by rw [Nat.zero_add]; exact FQ.out.ff j hj, FQ.out.aw, hR.out, hb, hg', hh'⟩
          have q1 := FQ.out.b.size
          have LA : Hid (∀ q ∈ [ga, mg, mh, mba], w.heap.size ≤ q) := fun q hq => by simp at hq; omega
          clear h5 hb MQ a1 a2 a3 a4 a5 q1
          go_wp2_with fail
          go_loopw [56] (fun u wp => ∃ (j op2 : Nat) (kd a : Int), j ≤ k ∧ u = .int .i64 j ∧ op2 ≤ op + j ∧ Sc wp ga mba mg mh 0 k j W K ms op2 kd a (fun j => ofR W K j) ∧ Below w.heap.size w wp) (fun u _ => k - (intOf u).toNat)
          case atStart => exact ⟨0, op, kd, a, Nat.zero_le _, rfl, by omega, S5.out, B5.out⟩
          case round =>
            obtain ⟨j, op2, kd2, a2, hj, rfl, hop2, hS, hB⟩ := hrel
            have SP := Lib.hid hS
            have BP := Lib.hid hB
            clear hS hB S5 B5
            by_cases hl3 : j < k
            · have l4 : (j : Int) < (k : Int) := by omega
              go_wp2_with fail
              refine (sc_step SP hl3 (by omega) (OK.out _ BP.out)).mono ?_
              rintro e w7 ⟨rfl, h7, o7⟩
              have B7 := Lib.hid (below_only BP.out o7 LA.out)
              have A7 := Lib.hid h7
              clear h7 o7
              go_wp2_with fail
              go_roundw
              case rel => exact ⟨j + 1, op2 + 1, _, _, by omega, by go_num, by omega, A7.out, B7.out⟩
              case measure => simp [intOf]; omega
            · obtain rfl : j = k := by omega
              have RF := Lib.hid (sc_ref SP.out (by omega))
              rw [MA.out] at RF
              go_wp2_with fail
              refine RF.out.mono ?_
              rintro e w7 ⟨rfl, hb⟩
              have B7 := Lib.hid (below_two BP.out hb)
              have M7 := Lib.hid (SP.out.mem.next hb)
              clear hb RF SP BP
              have ST := Lib.hid (mstore (j := i) (x := x) M7.out (by rw [FQ.out.ml]; exact hl2) (by omega))
              go_wp2_with fail
              refine ST.out.mono ?_
              rintro e w8 ⟨rfl, m8, hx8⟩
              have M8 := Lib.hid m8
              have B8 := Lib.hid (below_else B7.out hg' hh' hx8)
              have HF8 : Hid (∀ q, q < j → (fun j => if j = i then x else ofR W K j) q = (ms.set i x).getD (0 + q) 0) := fun q hq => by
                rw [Nat.zero_add, getD_set (by rw [FQ.out.ml]; exact hl2)]
                show (if q = i then x else ofR W K q) = _
                by_cases e : q = i
                · rw [if_pos e, if_pos e]
                · rw [if_neg e, if_neg e]; exact FQ.out.ff q hq
              have AW8 := Lib.hid (FQ.out.aw.set i (show x < 18446744073709551616 by omega))
              have AL8 : Hid ((ms.set i x).length = j) := by show _ = _; rw [List.length_set]; exact FQ.out.ml
              have HB8 : Hid ((ms.set i x).set i (ofR W K i) = ms) := by
                show _ = _
                rw [List.set_set]
                have := FQ.out.ff i hl2
                rw [this, List.getD_eq_getElem?_getD, List.getElem?_eq_getElem (by rw [FQ.out.ml]; exact hl2), Option.getD_some, List.set_getElem_self]
              clear m8 hx8 ST M7 B7
              generalize hms : ms.set i x = ms2 at *
              clear hms
              go_wp2_with fail
              refine (sc_new (A := 0) (W := W) (K := K) (fun j => if j = i then x else ofR W K j) M8.out (by omega)).mono ?_
              rintro e w9 ⟨gb, mbb, rfl, h9, b1, b2, b3, b4, b5, hb⟩
              have S9 := Lib.hid h9
              have B9 := Lib.hid (below_two B8.out hb)
              have OK9 : Hid (∀ wx, Below w.heap.size w wx → Ok7 w wx mg mh 0 j ms2 (fun j => if j = i then x else ofR W K j)) := fun wx hb => ⟨by omega, by rw [AL8.out]; omega, by rw [AL8.out]; omega, HF8.out, AW8.out, hR.out, hb, hg', hh'⟩
              have q1 := B8.out.size
              have LB : Hid (∀ q ∈ [gb, mg, mh, mbb], w.heap.size ≤ q) := fun q hq => by simp at hq; omega
              clear h9 hb M8 B8 b1 b2 b3 b4 b5 q1
              go_wp2_with fail
              go_loopw [80] (fun u wp => ∃ (q op3 : Nat) (kd a : Int), q ≤ j ∧ u = .int .i64 q ∧ op3 ≤ op2 + 1 + q ∧ Sc wp gb mbb mg mh 0 j q W K ms2 op3 kd a (fun j => if j = i then x else ofR W K j) ∧ Below w.heap.size w wp) (fun u _ => j - (intOf u).toNat)
              case atStart => exact ⟨0, op2 + 1, _, _, Nat.zero_le _, rfl, by omega, S9.out, B9.out⟩
              case round =>
                obtain ⟨q, op3, kd3, a3, hq, rfl, hop3, hS, hB⟩ := hrel
                have SP := Lib.hid hS
                have BP := Lib.hid hB
                clear hS hB S9 B9
                by_cases hl4 : q < j
                · have l4 : (q : Int) < (j : Int) := by omega
                  go_wp2_with fail
                  refine (sc_step SP hl4 (by omega) (OK9.out _ BP.out)).mono ?_
                  rintro e w7 ⟨rfl, h7, o7⟩
                  have B7 := Lib.hid (below_only BP.out o7 LB.out)
                  have A7 := Lib.hid h7
                  clear h7 o7
                  go_wp2_with fail
                  go_roundw
                  case rel => exact ⟨q + 1, op3 + 1, _, _, by omega, by go_num, by omega, A7.out, B7.out⟩
                  case measure => simp [intOf]; omega
                · obtain rfl : q = j := by omega
                  have RF := Lib.hid (sc_ref SP.out (by omega))
                  rw [MB.out] at RF
                  go_wp2_with fail
                  refine RF.out.mono ?_
                  rintro e w7 ⟨rfl, hb⟩
                  have B7 := Lib.hid (below_two BP.out hb)
                  have M7 := Lib.hid (SP.out.mem.next hb)
                  clear hb RF SP BP
                  have OF := Lib.hid fun w1 r1 => of_nat W K i w1 r1
                  generalize ofR W K i = y at *
                  go_wp2_with fail
                  refine (OF.out _ (hR.out.next B7.out)).mono ?_
                  rintro e w8 ⟨rfl, hb⟩
                  have B8 := Lib.hid (below_two B7.out hb)
                  have ST := Lib.hid (mstore (j := i) (x := y) (M7.out.next hb) (by rw [AL8.out]; exact hl2) (by omega))
                  clear hb M7 B7
                  go_wp2_with fail
                  refine ST.out.mono ?_
                  rintro e w9 ⟨rfl, m9, hx9⟩
                  rw [HB8.out] at m9
                  have FZ : Hid (Fr7 w w9 mg mh q W K ms (op3 + 1) 2 i) := ⟨m9, FQ.out.ml, FQ.out.ff, FQ.out.aw, below_else B8.out hg' hh' hx9⟩
                  clear m9 hx9 ST B8
                  go_wp2_with fail
                  go_roundw
                  case rel => exact ⟨i + 1, op3 + 1, ms, _, _, by omega, by go_num, by omega, FZ.out⟩
                  case measure => simp [intOf]; omega
        · obtain rfl : i = k := by omega
          go_wp2_with fail
          go_ret
          exact ⟨rfl, FQ.out.b⟩

set_option maxRecDepth 20000 in
set_option maxHeartbeats 1000000 in
theorem free_many (W K len cap : Nat) (ad : Option Addr) (w : World) (hlen : ¬ len ≤ 60) (hlen2 : len < 9223372036854775808) (hR : Hid (RefAt w)) :
    Calls Tryd.prog 5 #[.int .u8 W, .int .u8 K, .slice ad len cap] w fun e w' => e = .returned (.bool true) ∧ Below w.heap.size w w' := by
  have l1 : (60 : Int) < (len : Int) := by omega
  go_enter Tryd.func5, Tryd.ntmps5
  go_wp2_with fail
  refine (speaks7 _ hR).mono ?_
  rintro e w1 ⟨rfl, hb⟩
  have HB := Lib.hid hb
  clear hb
  go_wp2_with fail
  go_ret
  exact ⟨rfl, HB.out⟩

theorem free_walk (W K : Nat) (a : Option Addr) (len cap : Nat) (f : Nat → Nat) (w : World) (hW : W < 256) (hK : K < 256) (hz : RowU w a len f) (hR : RefAt w) :
    Calls Tryd.prog 5 #[.int .u8 W, .int .u8 K, .slice a len cap] w fun e w' => e = .returned (.bool true) ∧ Below w.heap.size w w' := by
  have hl := hz.le
  unfold maxLen at hl
  by_cases h2 : len ≤ 60
  · exact free_few W K len cap a f w h2 hW hK hz hR
  · exact free_many W K len cap a w h2 (by omega) hR

end Go.Proofs.YtlpaijobcopbnaaDoor
