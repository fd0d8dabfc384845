/-
  The walk of the statement TagOrder: in which order words that hold references stand is of no matter; nor how often one stands there.
-/
import Derived.Test.YtlpaijobcopbnaaDoorRowRef
namespace Go.Proofs.YtlpaijobcopbnaaDoor
open Go.RowKit Go.Sort Go.Maps

theorem getD_put {ms : List Nat} {i j x : Nat} (hi : i < ms.length) : (ms.set i x).getD j 0 = if j = i then x else ms.getD j 0 := by
  simp only [List.getD_eq_getElem?_getD, List.getElem?_set]
  by_cases e : j = i
  · subst e; simp [hi]
  · rw [if_neg (fun h => e h.symm), if_neg e]
/-- A step, whether there is something left or not. -/
theorem sc_go {w0 w : World} {g mb mg mh A n t : Nat} {W K : Int} {ms : List Nat} {op : Nat} {kd a : Int} {f : Nat → Nat} (h : Hid (Sc w g mb mg mh A n (min t n) W K ms op kd a f)) (hop : op < 1000000) (ok : Ok7 w0 w mg mh A n ms f) :
    Calls Tryd.prog 16 #[.pointer (some ⟨g, 0, none⟩)] w fun e w' => ∃ (bb : Bool) (op' : Nat) (kd' a' : Int), e = .returned (.bool bb) ∧ Sc w' g mb mg mh A n (min (t + 1) n) W K ms op' kd' a' f ∧ op' ≤ op + 1 ∧ Only [g, mg, mh, mb] w w' := by
  by_cases ht : t < n
  · rw [show min t n = t by omega] at h
    refine (sc_step h ht hop ok).mono ?_
    rintro e w' ⟨rfl, h1, h2⟩
    rw [show min (t + 1) n = t + 1 by omega]
    exact ⟨_, _, _, _, rfl, h1, Nat.le_refl _, h2⟩
  · rw [show min t n = n by omega] at h
    refine (sc_done h.out rfl).mono ?_
    rintro e w' ⟨rfl, rfl⟩
    rw [show min (t + 1) n = n by omega]
    exact ⟨_, _, _, _, rfl, h.out, by omega, Only.refl _ _⟩
/-- The references, once in order, once turned, and the first one ever again. -/
structure Or7 (n k : Nat) (fw : Nat → Nat) (ms : List Nat) : Prop where
  ml : ms.length = 3 * n
  aw : AllW ms
  p0 : ∀ j, j < k → ms.getD j 0 = fw j
  p1 : ∀ j, j < k → ms.getD (n + (n - 1 - j)) 0 = fw j
  p2 : ∀ j, j < k → ms.getD (2 * n + j) 0 = fw 0
theorem Or7.step {n k : Nat} {fw : Nat → Nat} {ms : List Nat} (h : Or7 n k fw ms) (hk : k < n) (hf : ∀ j, fw j < 18446744073709551616) : Or7 n (k + 1) fw (((ms.set k (fw k)).set (n + (n - 1 - k)) (fw k)).set (2 * n + k) (fw 0)) := by
  have hl := h.ml
  have key : ∀ j, (((ms.set k (fw k)).set (n + (n - 1 - k)) (fw k)).set (2 * n + k) (fw 0)).getD j 0 = if j = 2 * n + k then fw 0 else if j = n + (n - 1 - k) then fw k else if j = k then fw k else ms.getD j 0 := fun j => by
    rw [getD_put (by simp only [List.length_set]; omega), getD_put (by simp only [List.length_set]; omega), getD_put (by omega)]
  refine ⟨by simp only [List.length_set]; exact hl, ((h.aw.set _ (hf _)).set _ (hf _)).set _ (hf _), fun j hj => ?_, fun j hj => ?_, fun j hj => ?_⟩
  · rw [key, if_neg (by omega), if_neg (by omega)]
    by_cases e : j = k
    · rw [if_pos e, e]
    · rw [if_neg e]; exact h.p0 j (by omega)
  · rw [key, if_neg (by omega)]
    by_cases e : j = k
    · rw [if_pos (by omega), e]
    · rw [if_neg (by omega), if_neg (by omega)]; exact h.p1 j (by omega)
  · rw [key]
    by_cases e : j = k
    · rw [if_pos (by omega)]
    · rw [if_neg (by omega), if_neg (by omega), if_neg (by omega)]; exact h.p2 j (by omega)
def fB (n : Nat) (fw : Nat → Nat) (j : Nat) : Nat := fw (n - 1 - j)
def fC (n : Nat) (fw : Nat → Nat) (j : Nat) : Nat := if j < n then fw j else if j < 2 * n then fw (2 * n - 1 - j) else fw 0
theorem Or7.a {n : Nat} {fw : Nat → Nat} {ms : List Nat} (h : Or7 n n fw ms) (j : Nat) (hj : j < n) : fw j = ms.getD (0 + j) 0 := by rw [Nat.zero_add, h.p0 j hj]
theorem Or7.bb {n : Nat} {fw : Nat → Nat} {ms : List Nat} (h : Or7 n n fw ms) (j : Nat) (hj : j < n) : fB n fw j = ms.getD (n + j) 0 := by
  have := h.p1 (n - 1 - j) (by omega)
  rw [show n - 1 - (n - 1 - j) = j by omega] at this
  rw [this]; rfl
theorem Or7.cc {n : Nat} {fw : Nat → Nat} {ms : List Nat} (h : Or7 n n fw ms) (j : Nat) (hj : j < 3 * n) : fC n fw j = ms.getD (0 + j) 0 := by
  rw [Nat.zero_add]
  unfold fC
  by_cases h1 : j < n
  · rw [if_pos h1, h.p0 j h1]
  · rw [if_neg h1]
    by_cases h2 : j < 2 * n
    · rw [if_pos h2]
      have := h.p1 (2 * n - 1 - j) (by omega)
      rw [show n + (n - 1 - (2 * n - 1 - j)) = j by omega] at this
      exact this.symm
    · rw [if_neg h2]
      have := h.p2 (j - 2 * n) (by omega)
      rw [show 2 * n + (j - 2 * n) = j by omega] at this
      exact this.symm
theorem mex_b (W K : Int) (n : Nat) (fw : Nat → Nat) : mex (seen W K (fB n fw) n) = mex (seen W K fw n) := by
  refine mex_congr fun z => ?_
  rw [seen_mem, seen_mem]
  constructor
  · rintro ⟨j, hj, h⟩
    exact ⟨n - 1 - j, by omega, h⟩
  · rintro ⟨j, hj, h⟩
    refine ⟨n - 1 - j, by omega, ?_⟩
    unfold fB
    rw [show n - 1 - (n - 1 - j) = j by omega]
    exact h
theorem mex_c (W K : Int) (n : Nat) (fw : Nat → Nat) : mex (seen W K (fC n fw) (3 * n)) = mex (seen W K fw n) := by
  refine mex_congr fun z => ?_
  rw [seen_mem, seen_mem]
  constructor
  · rintro ⟨j, hj, h⟩
    unfold fC at h
    by_cases h1 : j < n
    · rw [if_pos h1] at h; exact ⟨j, h1, h⟩
    · rw [if_neg h1] at h
      by_cases h2 : j < 2 * n
      · rw [if_pos h2] at h; exact ⟨2 * n - 1 - j, by omega, h⟩
      · rw [if_neg h2] at h; exact ⟨0, by omega, h⟩
  · rintro ⟨j, hj, h⟩
    refine ⟨j, by omega, ?_⟩
    unfold fC
    rw [if_pos hj]
    exact h
theorem of_three (x y z : Int) (w : World) (hR : Hid (RefAt w)) : Calls Tryd.prog 12 #[.agg #[.int .i64 x, .int .i64 y, .int .i64 z]] w fun e w' => e = .returned (.int .u64 (ofR x y z : Nat)) ∧ Below w.heap.size w w' := of_any x y z w hR
/-- A reference in its block. -/
structure Rf (w : World) (r : Nat) (x y z : Int) : Prop where
  c0 : w.cell? ⟨r, 0, none⟩ = some (.int .i64 x)
  c1 : w.cell? ⟨r, 1, none⟩ = some (.int .i64 y)
  c2 : w.cell? ⟨r, 2, none⟩ = some (.int .i64 z)
theorem Rf.lt {w : World} {r : Nat} {x y z : Int} (h : Rf w r x y z) : r < w.heap.size := World.block_lt_of_cell? w ⟨r, 0, none⟩ h.c0
theorem Rf.next {w w' : World} {r : Nat} {x y z : Int} (h : Rf w r x y z) (hb : Below w.heap.size w w') : Rf w' r x y z :=
  ⟨(hb.cell (p := ⟨r, 0, none⟩) h.lt).trans h.c0, (hb.cell (p := ⟨r, 1, none⟩) h.lt).trans h.c1, (hb.cell (p := ⟨r, 2, none⟩) h.lt).trans h.c2⟩
theorem Rf.box (w : World) (x y z : Int) (T : TypeId) : Rf (w.alloc (.cells #[.int .i64 x, .int .i64 y, .int .i64 z] T)) w.heap.size x y z := ⟨by simp, by simp, by simp⟩
theorem Rf.mem {w w' : World} {r mg mh : Nat} {x y z : Int} (h : Rf w r x y z) (e : Else mg mh w w') (h1 : r ≠ mg) (h2 : r ≠ mh) : Rf w' r x y z := by
  have hb := e.block r h.lt h1 h2
  exact ⟨(World.cell?_of_block hb).trans h.c0, (World.cell?_of_block hb).trans h.c1, (World.cell?_of_block hb).trans h.c2⟩

set_option maxRecDepth 20000 in
set_option maxHeartbeats 2000000 in
theorem order_few (n cap W K : Nat) (ad : Option Addr) (X Y Z : Nat → Int) (w : World) (hn : n ≤ 60) (hW : W < 256) (hK : K < 256) (hr : Hid (RowR w ad n X Y Z)) (hR : Hid (RefAt w)) :
    Calls Tryd.prog 6 #[.slice ad n cap, .int .u8 W, .int .u8 K] w fun e w' => e = .returned (.bool true) ∧ Below w.heap.size w w' := by
  have l1 : (n : Int) ≤ 60 := by omega
  have NW : Hid (∀ w1, Calls Tryd.prog 11 #[.int .i64 (3 * (n : Int))] w1 fun e w' => ∃ g h, e = .returned (.pointer (some ⟨g, 0, none⟩)) ∧ MemAt w' g h (MSt.fresh (3 * n)) ∧ w1.heap.size ≤ g ∧ w1.heap.size ≤ h ∧ Below w1.heap.size w1 w') := fun w1 => by
    rw [show 3 * (n : Int) = ((3 * n : Nat) : Int) by omega]
    exact new8 _ w1 (by omega)
  have HFW : Hid (∀ j, ofR (X j) (Y j) (Z j) < 18446744073709551616) := fun j => ofR_lt _ _ _
  go_enter Tryd.func6, Tryd.ntmps6
  go_wp2_with fail
  refine (speaks7 _ hR).mono ?_
  rintro e w1 ⟨rfl, hb⟩
  have B1 := Lib.hid hb
  clear hb
  go_wp2_with fail
  refine (NW.out _).mono ?_
  rintro e w2 ⟨mg, mh, rfl, m2, hg, hh, hb⟩
  have B2 := Lib.hid (below_two B1.out hb)
  have hg' : w.heap.size ≤ mg := Nat.le_trans B1.out.size hg
  have hh' : w.heap.size ≤ mh := Nat.le_trans B1.out.size hh
  have O0 : Hid (Or7 n 0 (fun j => ofR (X j) (Y j) (Z j)) (List.replicate (3 * n) 0)) := ⟨by simp, fun x hx => by rw [List.eq_of_mem_replicate hx]; decide, fun j h => absurd h (by omega), fun j h => absurd h (by omega), fun j h => absurd h (by omega)⟩
  clear hb hg hh B1 NW
  go_wp2_with fail
  go_loopw [26] (fun u wr => ∃ (k op : Nat) (ms : List Nat) (kd a : Int), k ≤ n ∧ u = .int .i64 k ∧ op = 3 * k ∧ MemAt wr mg mh ⟨ms, op, 0, kd, a⟩ ∧ Or7 n k (fun j => ofR (X j) (Y j) (Z j)) ms ∧ Below w.heap.size w wr) (fun u _ => n - (intOf u).toNat)
  case atStart => exact ⟨0, 0, _, 0, 0, Nat.zero_le _, rfl, rfl, m2, O0.out, B2.out⟩
  case round =>
    obtain ⟨k, op, ms, kd, a, hk, rfl, hop, hm, hO, hB⟩ := hrel
    have BR := Lib.hid hB
    have mr := Lib.hid hm
    have OR := Lib.hid hO
    clear hB hm hO m2 O0
    by_cases hl : k < n
    · obtain ⟨b, off, rfl, e0, e1, e2⟩ := (hr.out.next BR.out).at hl
      have l3 : (k : Int) < (n : Int) := by omega
      have OS : Hid (Or7 n (k + 1) (fun j => ofR (X j) (Y j) (Z j)) (((ms.set k (ofR (X k) (Y k) (Z k))).set (n + (n - 1 - k)) (ofR (X k) (Y k) (Z k))).set (2 * n + k) (ofR (X 0) (Y 0) (Z 0)))) := OR.out.step hl HFW.out
      have ml := OR.out.ml
      have B3 := Lib.hid (below_two BR.out (box1 wr (.cells #[.int .i64 (X k), .int .i64 (Y k), .int .i64 (Z k)] 33)))
      have M3 := Lib.hid (mr.out.next (box1 wr (.cells #[.int .i64 (X k), .int .i64 (Y k), .int .i64 (Z k)] 33)))
      have F3 := Lib.hid (Rf.box wr (X k) (Y k) (Z k) 33)
      have FN : Hid (wr.heap.size ≠ mg ∧ wr.heap.size ≠ mh) := by have := mr.out.lt; show _ ∧ _; omega
      have OF := Lib.hid fun w1 r1 => of_three (X k) (Y k) (Z k) w1 r1
      have OF0 := Lib.hid fun w1 r1 => of_three (X 0) (Y 0) (Z 0) w1 r1
      have R0 := Lib.hid fun (wx : World) (hb : Below w.heap.size w wx) => (hr.out.next hb).at (show 0 < n by omega)
      have S1 := Lib.hid fun (wx : World) m1 => mstore (ms := ms) (o := op) (kd := kd) (a := a) (g := mg) (h := mh) (w := wx) (j := k) (x := ofR (X k) (Y k) (Z k)) m1 (by omega) (by omega)
      have S2 : Hid (∀ (wx : World) (ms1 : List Nat) (kd a : Int), ms1.length = 3 * n → MemAt wx mg mh ⟨ms1, op + 1, 0, kd, a⟩ → Calls Tryd.prog 13 #[.pointer (some ⟨mg, 0, none⟩), .int .i64 ((n : Int) + ((n : Int) - 1 - (k : Int))), .int .u64 (ofR (X k) (Y k) (Z k) : Nat)] wx fun e w' => e = .returned (.tuple #[]) ∧ MemAt w' mg mh ⟨ms1.set (n + (n - 1 - k)) (ofR (X k) (Y k) (Z k)), op + 1 + 1, 0, 2, (n : Int) + ((n : Int) - 1 - (k : Int))⟩ ∧ Else mg mh wx w') := fun wx ms1 kd a h1 h2 => by
        have := mstore (j := n + (n - 1 - k)) (x := ofR (X k) (Y k) (Z k)) h2 (by omega) (by omega)
        rw [show ((n + (n - 1 - k) : Nat) : Int) = (n : Int) + ((n : Int) - 1 - (k : Int)) by omega] at this
        exact this
      have S3 : Hid (∀ (wx : World) (ms1 : List Nat) (kd a : Int), ms1.length = 3 * n → MemAt wx mg mh ⟨ms1, op + 1 + 1, 0, kd, a⟩ → Calls Tryd.prog 13 #[.pointer (some ⟨mg, 0, none⟩), .int .i64 (2 * (n : Int) + (k : Int)), .int .u64 (ofR (X 0) (Y 0) (Z 0) : Nat)] wx fun e w' => e = .returned (.tuple #[]) ∧ MemAt w' mg mh ⟨ms1.set (2 * n + k) (ofR (X 0) (Y 0) (Z 0)), op + 1 + 1 + 1, 0, 2, 2 * (n : Int) + (k : Int)⟩ ∧ Else mg mh wx w') := fun wx ms1 kd a h1 h2 => by
        have := mstore (j := 2 * n + k) (x := ofR (X 0) (Y 0) (Z 0)) h2 (by omega) (by omega)
        rw [show ((2 * n + k : Nat) : Int) = 2 * (n : Int) + (k : Int) by omega] at this
        exact this
      generalize ofR (X k) (Y k) (Z k) = x at *
      generalize ofR (X 0) (Y 0) (Z 0) = y at *
      generalize X k = xk at *
      generalize Y k = yk at *
      generalize Z k = zk at *
      generalize X 0 = x0 at *
      generalize Y 0 = y0 at *
      generalize Z 0 = z0 at *
      go_wp2_with fail
      generalize wr.alloc (.cells #[.int .i64 xk, .int .i64 yk, .int .i64 zk] 33) = w3 at *
      generalize wr.heap.size = r at *
      refine (OF.out _ (hR.out.next B3.out)).mono ?_
      rintro e w4 ⟨rfl, hb⟩
      have B4 := Lib.hid (below_two B3.out hb)
      have M4 := Lib.hid (M3.out.next hb)
      have F4 := Lib.hid (F3.out.next hb)
      clear hb B3 M3 F3 e0 e1 e2 mr BR
      go_wp2_with fail
      refine (S1.out _ M4.out).mono ?_
      rintro e w5 ⟨rfl, m5, hx⟩
      have M5 := Lib.hid m5
      have B5 := Lib.hid (below_else B4.out hg' hh' hx)
      have F5 := F4.out.mem hx FN.out.1 FN.out.2
      clear m5 hx M4 B4 F4
      obtain ⟨c0, c1, c2⟩ := F5
      go_wp2_with fail
      refine (OF.out _ (hR.out.next B5.out)).mono ?_
      rintro e w6 ⟨rfl, hb⟩
      have B6 := Lib.hid (below_two B5.out hb)
      have M6 := Lib.hid (M5.out.next hb)
      clear hb B5 M5 c0 c1 c2
      go_wp2_with fail
      refine (S2.out _ _ _ _ (by rw [List.length_set]; exact ml) M6.out).mono ?_
      rintro e w7 ⟨rfl, m7, hx⟩
      have M7 := Lib.hid m7
      have B7 := Lib.hid (below_else B6.out hg' hh' hx)
      clear m7 hx M6 B6
      obtain ⟨b', off', hb', c0, c1, c2⟩ := R0.out _ B7.out
      cases hb'
      rw [Nat.zero_mul, Nat.add_zero] at c0 c1 c2
      go_wp2_with fail
      refine (OF0.out _ (hR.out.next B7.out)).mono ?_
      rintro e w8 ⟨rfl, hb⟩
      have B8 := Lib.hid (below_two B7.out hb)
      have M8 := Lib.hid (M7.out.next hb)
      clear hb B7 M7 c0 c1 c2
      go_wp2_with fail
      refine (S3.out _ _ _ _ (by rw [List.length_set, List.length_set]; exact ml) M8.out).mono ?_
      rintro e w9 ⟨rfl, m9, hx⟩
      have M9 := Lib.hid m9
      have B9 := Lib.hid (below_else B8.out hg' hh' hx)
      clear m9 hx M8 B8
      go_wp2_with fail
      go_roundw
      case rel => exact ⟨k + 1, op + 1 + 1 + 1, _, _, _, by omega, by go_num, by omega, M9.out, OS.out, B9.out⟩
      case measure => simp [intOf]; omega
    · obtain rfl : k = n := by omega
      have OKA : Hid (∀ wx, Below w.heap.size w wx → Ok7 w wx mg mh 0 k ms (fun j => ofR (X j) (Y j) (Z j))) := fun wx hb => ⟨by omega, by rw [OR.out.ml]; omega, by rw [OR.out.ml]; omega, OR.out.a, OR.out.aw, hR.out, hb, hg', hh'⟩
      have OKB : Hid (∀ wx, Below w.heap.size w wx → Ok7 w wx mg mh k k ms (fB k (fun j => ofR (X j) (Y j) (Z j)))) := fun wx hb => ⟨by omega, by rw [OR.out.ml]; omega, by rw [OR.out.ml]; omega, OR.out.bb, OR.out.aw, hR.out, hb, hg', hh'⟩
      have OKC : Hid (∀ wx, Below w.heap.size w wx → Ok7 w wx mg mh 0 (3 * k) ms (fC k (fun j => ofR (X j) (Y j) (Z j)))) := fun wx hb => ⟨by omega, by rw [OR.out.ml]; omega, by rw [OR.out.ml]; omega, OR.out.cc, OR.out.aw, hR.out, hb, hg', hh'⟩
      have MXB := Lib.hid (mex_b (W : Int) (K : Int) k (fun j => ofR (X j) (Y j) (Z j)))
      have MXC := Lib.hid (mex_c (W : Int) (K : Int) k (fun j => ofR (X j) (Y j) (Z j)))
      generalize (fun j => ofR (X j) (Y j) (Z j)) = fw at *
      go_wp2_with fail
      refine (sc_new (A := 0) (W := W) (K := K) fw mr.out (by omega)).mono ?_
      rintro e w5 ⟨ga, mba, rfl, h5, a1, a2, a3, a4, a5, hb⟩
      have A5 := Lib.hid h5
      have M5 := Lib.hid h5.mem
      have B5 := Lib.hid (below_two BR.out hb)
      have ml := mr.out.lt
      have q1 := BR.out.size
      clear h5 hb mr BR OR
      go_wp2_with fail
      refine (sc_new (A := k) (W := W) (K := K) (fB k fw) M5.out (by omega)).mono ?_
      rintro e w6 ⟨gb, mbb, rfl, h6, b1, b2, b3, b4, b5, hb⟩
      have A6 := Lib.hid (A5.out.next hb)
      have B6s := Lib.hid h6
      have M6 := Lib.hid h6.mem
      have B6 := Lib.hid (below_two B5.out hb)
      have q2 := B5.out.size
      clear h6 hb A5 M5 B5
      have NC : Hid (Calls Tryd.prog 15 #[.pointer (some ⟨mg, 0, none⟩), .int .i64 0, .int .i64 (3 * (k : Int)), .int .i64 W, .int .i64 K] w6 fun e w' => ∃ g mb, e = .returned (.pointer (some ⟨g, 0, none⟩)) ∧ Sc w' g mb mg mh 0 (3 * k) 0 W K ms op kd a (fC k fw) ∧ w6.heap.size ≤ g ∧ w6.heap.size ≤ mb ∧ g < w'.heap.size ∧ mb < w'.heap.size ∧ g ≠ mb ∧ Below w6.heap.size w6 w') := by
        have := sc_new (A := 0) (n := 3 * k) (W := W) (K := K) (fC k fw) M6.out (by omega)
        rw [show ((3 * k : Nat) : Int) = 3 * (k : Int) by omega] at this
        exact this
      go_wp2_with fail
      refine NC.out.mono ?_
      rintro e w7 ⟨gc, mbc, rfl, h7, d1, d2, d3, d4, d5, hb⟩
      have A7 := Lib.hid (A6.out.next hb)
      have B7s := Lib.hid (B6s.out.next hb)
      have C7s := Lib.hid h7
      have B7 := Lib.hid (below_two B6.out hb)
      have q3 := B6.out.size
      have LA : Hid (∀ q ∈ [ga, mg, mh, mba], w.heap.size ≤ q) := fun q hq => by simp at hq; omega
      have LB : Hid (∀ q ∈ [gb, mg, mh, mbb], w.heap.size ≤ q) := fun q hq => by simp at hq; omega
      have LC : Hid (∀ q ∈ [gc, mg, mh, mbc], w.heap.size ≤ q) := fun q hq => by simp at hq; omega
      have NA : Hid (ga ∉ [gb, mg, mh, mbb] ∧ mba ∉ [gb, mg, mh, mbb] ∧ ga ∉ [gc, mg, mh, mbc] ∧ mba ∉ [gc, mg, mh, mbc]) := by show _ ∧ _ ∧ _ ∧ _; simp; omega
      have NB : Hid (gb ∉ [ga, mg, mh, mba] ∧ mbb ∉ [ga, mg, mh, mba] ∧ gb ∉ [gc, mg, mh, mbc] ∧ mbb ∉ [gc, mg, mh, mbc]) := by show _ ∧ _ ∧ _ ∧ _; simp; omega
      have ND : Hid (gc ∉ [ga, mg, mh, mba] ∧ mbc ∉ [ga, mg, mh, mba] ∧ gc ∉ [gb, mg, mh, mbb] ∧ mbc ∉ [gb, mg, mh, mbb]) := by show _ ∧ _ ∧ _ ∧ _; simp; omega
      clear h7 hb A6 B6s M6 B6 NC a1 a2 a3 a4 a5 b1 b2 b3 b4 b5 d1 d2 d3 d4 d5 ml q1 q2 q3
      go_wp2_with fail
      go_loopw [83] (fun u wq => ∃ (t op : Nat) (kd a : Int), t ≤ 3 * k + 1 ∧ u = .int .i64 t ∧ op ≤ 200 + 3 * t ∧ Sc wq ga mba mg mh 0 k (min t k) W K ms op kd a fw ∧ Sc wq gb mbb mg mh k k (min t k) W K ms op kd a (fB k fw) ∧ Sc wq gc mbc mg mh 0 (3 * k) (min t (3 * k)) W K ms op kd a (fC k fw) ∧ Below w.heap.size w wq) (fun u _ => 3 * k + 1 - (intOf u).toNat)
      case atStart => exact ⟨0, op, kd, a, Nat.zero_le _, rfl, by omega, by rw [Nat.zero_min]; exact A7.out, by rw [Nat.zero_min]; exact B7s.out, by rw [Nat.zero_min]; exact C7s.out, B7.out⟩
      case round =>
        obtain ⟨t, op, kd, a, ht, rfl, hop, hA, hBs, hC, hB⟩ := hrel
        have QA := Lib.hid hA
        have QB := Lib.hid hBs
        have QC := Lib.hid hC
        have BQ := Lib.hid hB
        clear hA hBs hC hB A7 B7s C7s B7
        by_cases hl2 : t < 3 * k + 1
        · have l3 : (t : Int) < 3 * (k : Int) + 1 := by omega
          go_wp2_with fail
          refine (sc_go QA (by omega) (OKA.out _ BQ.out)).mono ?_
          rintro e w8 ⟨bb, op8, kd8, a8, rfl, h8, o8, x8⟩
          have A8 := Lib.hid h8
          have B8s := Lib.hid (QB.out.share h8.mem x8 NB.out.1 NB.out.2.1)
          have C8s := Lib.hid (QC.out.share h8.mem x8 ND.out.1 ND.out.2.1)
          have B8 := Lib.hid (below_only BQ.out x8 LA.out)
          clear h8 x8 QA QB QC BQ
          go_wp2_with fail
          refine (sc_go B8s (by omega) (OKB.out _ B8.out)).mono ?_
          rintro e w9 ⟨bb9, op9, kd9, a9, rfl, h9, o9, x9⟩
          have B9s := Lib.hid h9
          have A9 := Lib.hid (A8.out.share h9.mem x9 NA.out.1 NA.out.2.1)
          have C9s := Lib.hid (C8s.out.share h9.mem x9 ND.out.2.2.1 ND.out.2.2.2)
          have B9 := Lib.hid (below_only B8.out x9 LB.out)
          clear h9 x9 A8 B8s C8s B8
          go_wp2_with fail
          refine (sc_go C9s (by omega) (OKC.out _ B9.out)).mono ?_
          rintro e w10 ⟨bb10, op10, kd10, a10, rfl, h10, o10, x10⟩
          have CZ := Lib.hid h10
          have AZ := Lib.hid (A9.out.share h10.mem x10 NA.out.2.2.1 NA.out.2.2.2)
          have BZs := Lib.hid (B9s.out.share h10.mem x10 NB.out.2.2.1 NB.out.2.2.2)
          have BZ := Lib.hid (below_only B9.out x10 LC.out)
          clear h10 x10 A9 B9s C9s B9
          go_wp2_with fail
          go_roundw
          case rel => exact ⟨t + 1, op10, _, _, by omega, by go_num, by omega, AZ.out, BZs.out, CZ.out, BZ.out⟩
          case measure => simp [intOf]; omega
        · obtain rfl : t = 3 * k + 1 := by omega
          rw [show ((3 * k + 1 : Nat) : Int) = 3 * (k : Int) + 1 by omega]
          rw [show min (3 * k + 1) k = k by omega] at QA QB
          rw [show min (3 * k + 1) (3 * k) = 3 * k by omega] at QC
          have RA := Lib.hid fun w1 (h1 : Sc w1 ga mba mg mh 0 k k W K ms op kd a fw) => sc_ref h1 (by omega)
          have RB := Lib.hid fun w1 (h1 : Sc w1 gb mbb mg mh k k k W K ms op kd a (fB k fw)) => sc_ref h1 (by omega)
          have RC := Lib.hid fun w1 (h1 : Sc w1 gc mbc mg mh 0 (3 * k) (3 * k) W K ms op kd a (fC k fw)) => sc_ref h1 (by omega)
          rw [MXB.out] at RB
          rw [MXC.out] at RC
          generalize mex (seen (W : Int) (K : Int) fw k) = M at *
          go_wp2_with fail
          refine (RA.out _ QA.out).mono ?_
          rintro e w8 ⟨rfl, hb⟩
          have A8 := Lib.hid (QA.out.next hb)
          have B8s := Lib.hid (QB.out.next hb)
          have C8s := Lib.hid (QC.out.next hb)
          have B8 := Lib.hid (below_two BQ.out hb)
          clear hb QA QB QC BQ
          go_wp2_with fail
          refine (RB.out _ B8s.out).mono ?_
          rintro e w9 ⟨rfl, hb⟩
          have A9 := Lib.hid (A8.out.next hb)
          have C9s := Lib.hid (C8s.out.next hb)
          have B9 := Lib.hid (below_two B8.out hb)
          clear hb A8 B8s C8s B8
          go_wp2_with fail
          refine (RA.out _ A9.out).mono ?_
          rintro e w10 ⟨rfl, hb⟩
          have C10s := Lib.hid (C9s.out.next hb)
          have B10 := Lib.hid (below_two B9.out hb)
          clear hb A9 C9s B9
          go_wp2_with fail
          refine (RC.out _ C10s.out).mono ?_
          rintro e w11 ⟨rfl, hb⟩
          have M11 := Lib.hid (C10s.out.mem.next hb)
          have B11 := Lib.hid (below_two B10.out hb)
          clear hb C10s B10
          go_wp2_with fail
          refine (faults_any mg mh _ _ M11.out).mono ?_
          rintro e w' ⟨rfl, rfl⟩
          go_wp2_with fail
          go_ret
          exact ⟨rfl, B11.out⟩

set_option maxRecDepth 20000 in
set_option maxHeartbeats 1000000 in
theorem order_many (n cap W K : Nat) (ad : Option Addr) (w : World) (hn : ¬ n ≤ 60) (hn2 : n < 9223372036854775808) (hR : Hid (RefAt w)) :
    Calls Tryd.prog 6 #[.slice ad n cap, .int .u8 W, .int .u8 K] w fun e w' => e = .returned (.bool true) ∧ Below w.heap.size w w' := by
  have l1 : (60 : Int) < (n : Int) := by omega
  go_enter Tryd.func6, Tryd.ntmps6
  go_wp2_with fail
  refine (speaks7 _ hR).mono ?_
  rintro e w1 ⟨rfl, hb⟩
  have HB := Lib.hid hb
  clear hb
  go_wp2_with fail
  go_ret
  exact ⟨rfl, HB.out⟩

theorem order_walk (a : Option Addr) (len cap : Nat) (X Y Z : Nat → Int) (W K : Nat) (w : World) (hz : RowR w a len X Y Z) (hW : W < 256) (hK : K < 256) (hR : RefAt w) :
    Calls Tryd.prog 6 #[.slice a len cap, .int .u8 W, .int .u8 K] w fun e w' => e = .returned (.bool true) ∧ Below w.heap.size w w' := by
  have hl := hz.1
  unfold maxLen at hl
  by_cases h2 : len ≤ 60
  · exact order_few len cap W K a X Y Z w h2 hW hK hz hR
  · exact order_many len cap W K a w h2 (by omega) hR

end Go.Proofs.YtlpaijobcopbnaaDoor
