/-
  The document's Give and Take over rows of superblocks.
-/
import Derived.Test.YtkogeeaoppkhkaaDoorHeartW
import Derived.Test.YtkogeeaoppkhkaaDoorHeartRM
namespace Go.Proofs.YtkogeeaoppkhkaaDoor
open Go.RowKit Go.Sort Go.Shelf

theorem RS.op {w w' : World} {v : Value} {l : List Sb} {N A B : Nat} (h : RS w v l) (hb : OpBox w N A B) (x : Only [N] w w') : RS w' v l := by
  refine ORow.stay h x (fun b e m => ?_)
  simp at m
  subst m
  rcases ORow.cases h with ⟨h1, _⟩ | ⟨b', cap, cur, h1, h2, _⟩
  · subst h1; simp [Value.ownBlock] at e
  · subst h1
    simp [Value.ownBlock] at e
    subst e
    have e2 : (Obj.cells cur 99 (0, 0)) = _ := Option.some.inj (h2.symm.trans hb)
    simp at e2
/-- A superblock of a row, its first cell. -/
theorem RS.kind {w : World} {v : Value} {l : List Sb} (h : RS w v l) {i : Nat} {s : Sb} (hi : l[i]? = some s) : ∃ rb cap, v = .slice (some ⟨rb, 0, none⟩) l.length cap ∧ rb < w.heap.size ∧ w.cell? ⟨rb, i * 3, none⟩ = some (.int .i64 (s.k : Int)) ∧ w.cell? ⟨rb, i * 3 + 1, none⟩ = some (.int .i64 (s.n : Int)) := by
  obtain ⟨rb, cap, h1, h2, h3, h4, _⟩ := h.cells hi
  exact ⟨rb, cap, h1, h2, h3, h4⟩
theorem give_refuse {l : List Sb} {i : Nat} (h : ∀ s, l[i]? = some s → s.k ≠ 2) : giveP l i = (l, (0, 0)) := by
  unfold giveP
  split
  case h_1 s hs => rw [if_neg]; rintro ⟨h1, _⟩; exact h s hs h1
  · rfl
def RPost (w : World) (x : List Sb × (Nat × Nat)) (e : Ending) (w' : World) : Prop := ∃ v', e = .returned (.tuple #[v', opV x.2]) ∧ RS w' v' x.1 ∧ Below w.heap.size w w'
set_option maxRecDepth 20000 in
set_option maxHeartbeats 4000000 in
theorem rgive_any (v : Value) (l : List Sb) (i : Nat) (w : World) (hR : Hid (RS w v l)) (few : l.length ≤ 64) (hi : i < 4294967296) (hrun : Hid (∀ s, l[i]? = some s → s.k = 2 → 1 ≤ s.n ∧ i + s.n ≤ l.length)) :
    Calls Tryd.prog 49 #[v, .int .i64 (i : Nat)] w (RPost w (giveP l i)) := by
  have N0 := Lib.hid (OpBox.new w)
  have B0 := Lib.hid (box1 w (.cells #[.int .u64 0, .int .u64 0] 37))
  have R1 := Lib.hid (hR.out.next B0.out)
  have nb : decide ((i : Int) < 0) = false := by simp
  have nb2 : ¬ (i : Int) < 0 := by omega
  have c0 := N0.out.z0
  have c1 := N0.out.z1
  have f0 := frozen_of (j := 0) N0.out
  have f1 := frozen_of (j := 1) N0.out
  by_cases hil : i < l.length
  · have hs := Lib.hid (at_of hil)
    have hru := Lib.hid (hrun.out _ hs.out)
    obtain ⟨rb, rc, rfl, hrb, k0, k1⟩ := R1.out.kind hs.out
    have GN := Lib.hid (give_refuse (l := l) (i := i))
    have GY : Hid ((l.getD i Sb.none).k = 2 → giveP l i = (clearP l i (l.getD i Sb.none).n, (1, 0))) := fun h => by
      obtain ⟨h1, h2⟩ := hru.out h
      simp only [giveP, hs.out]
      rw [if_pos ⟨h, by omega⟩, Nat.min_eq_left (by omega)]
    have hsn := Lib.hid hs.out
    generalize giveP l i = V at *
    generalize l.getD i Sb.none = s at *
    have g1 : ¬ (l.length : Int) ≤ (i : Int) := by omega
    have g2 : decide ((l.length : Int) ≤ (i : Int)) = false := by simpa using g1
    have l3 : (i : Int) < (l.length : Int) := by omega
    by_cases hk : s.k = 2
    · obtain ⟨hn1, hn2⟩ := hru.out hk
      have EV := Lib.hid (GY.out hk)
      have k0' : (w.alloc (.cells #[.int .u64 0, .int .u64 0] 37)).cell? ⟨rb, i * 3, none⟩ = some (.int .i64 2) := by rw [k0, hk]; rfl
      clear k0 GN GY hru hs hrun
      obtain ⟨sk, n, sm⟩ := s
      simp only at hk hn1 hn2 k1 EV
      have hsn' : Hid (l[i]? = some ⟨sk, n, sm⟩) := hsn
      go_enter Tryd.func49, Tryd.ntmps49
      go_wp2_with fail
      generalize w.alloc (.cells #[.int .u64 0, .int .u64 0] 37) = w1 at *
      generalize hP : w.heap.size = P at *
      go_loopw [6, 7] (fun u6 u7 wr => ∃ k : Nat, k ≤ n ∧ u7 = .int .i64 (k : Nat) ∧ Hid (RS wr u6 (clearP l i k)) ∧ Hid (Below w1.heap.size w1 wr)) (fun _ u7 _ => n - (intOf u7).toNat)
      case atStart => exact ⟨0, by omega, rfl, R1, Lib.hid (Below.refl _ _)⟩
      case round =>
        obtain ⟨k, hk0, rfl, Rk, Bk⟩ := hrel
        have d1 : wr.cell? ⟨rb, i * 3 + 1, none⟩ = some (.int .i64 (n : Int)) := (Bk.out.cell (p := ⟨rb, i * 3 + 1, none⟩) hrb).trans k1
        by_cases hk1 : k < n
        · have g3 : (k : Int) < (n : Int) := by omega
          have g4 : decide ((k : Int) < (n : Int)) = true := by simpa using g3
          have wa : IntKind.i64.wrap ((i : Int) + (k : Int)) = (i : Int) + (k : Int) := by rw [IntKind.wrap_i64]; omega
          have wb : IntKind.i64.wrap ((k : Int) + 1) = (k : Int) + 1 := by rw [IntKind.wrap_i64]; omega
          have WI := Lib.hid (rwith_any u6 (clearP l i k) (i + k) Sb.none wr Rk (by rw [clearP_len]; omega) (by rw [clearP_len]; omega))
          rw [show ((i + k : Nat) : Int) = (i : Int) + (k : Int) from by omega] at WI
          go_wp2_with fail
          refine WI.out.mono ?_
          rintro e w5 ⟨v', rfl, H5, O5⟩
          have Rk2 : Hid (RS w5 v' (clearP l i (k + 1))) := H5
          have Bk2 : Hid (Below w1.heap.size w1 w5) := Bk.out.trans (O5.mono Bk.out.size)
          clear H5 O5 WI d1
          go_wp2_with fail
          go_roundw
          case rel => exact ⟨k + 1, by omega, by push_cast; rfl, Rk2, Bk2⟩
          case measure => simp [intOf]; omega
        · obtain rfl : k = n := by omega
          have g3 : ¬ (k : Int) < (k : Int) := by omega
          have M4 := Lib.hid (N0.out.next Bk.out)
          have c0 := M4.out.z0
          have c1 := M4.out.z1
          have f0 := frozen_of (j := 0) M4.out
          have f1 := frozen_of (j := 1) M4.out
          go_wp2_with fail
          have R := M4.out.one
          have B5 : Below P w wr := B0.out.trans (Bk.out.mono (by have := B0.out.size; omega))
          exact bodyPost_ret (v := .tuple #[u6, .agg #[.int .u64 1, .int .u64 0]]) (by simp [results, Tryd.results49, go_sem, R.o0, R.o1]) rfl ⟨u6, by rw [EV.out]; rfl, by rw [EV.out]; exact Rk.out.op M4.out (only_op _ _), by rw [← hP] at B5 ⊢; exact below_set (below_set B5 (Nat.le_refl _)) (Nat.le_refl _)⟩
    · have EV := Lib.hid (GN.out (fun s' h => by rw [hsn.out] at h; cases h; exact hk))
      have g4 : ¬ ((s.k : Nat) : Int) = 2 := by omega
      go_enter Tryd.func49, Tryd.ntmps49
      go_wp2_with fail
      have R := N0.out
      exact bodyPost_ret (v := .tuple #[.slice (some ⟨rb, 0, none⟩) l.length rc, .agg #[.int .u64 0, .int .u64 0]]) (by simp [results, Tryd.results49, go_sem, R.z0, R.z1]) rfl ⟨_, by rw [EV.out]; rfl, by rw [EV.out]; exact R1.out, B0.out⟩
  · obtain ⟨ra, rc, rfl⟩ := ORow.form R1.out
    have EV := Lib.hid (give_refuse (l := l) (i := i) (fun s' h => absurd (List.getElem?_eq_some_iff.1 h).1 hil))
    generalize giveP l i = V at *
    have g1 : (l.length : Int) ≤ (i : Int) := by omega
    have g2 : decide ((l.length : Int) ≤ (i : Int)) = true := by simpa using g1
    go_enter Tryd.func49, Tryd.ntmps49
    go_wp2_with fail
    have R := N0.out
    exact bodyPost_ret (v := .tuple #[.slice ra l.length rc, .agg #[.int .u64 0, .int .u64 0]]) (by simp [results, Tryd.results49, go_sem, R.z0, R.z1]) rfl ⟨_, by rw [EV.out]; rfl, by rw [EV.out]; exact R1.out, B0.out⟩

def okTo (l : List Sb) (i : Nat) : Nat → Bool
  | 0 => true
  | j + 1 => okTo l i j && isFree (l.getD (i + j) Sb.none)
theorem okTo_iff {l : List Sb} {i : Nat} : ∀ {n : Nat}, okTo l i n = true ↔ ∀ j, j < n → isFree (l.getD (i + j) Sb.none) = true
  | 0 => by simp [okTo]
  | n + 1 => by
    simp only [okTo, Bool.and_eq_true, okTo_iff]
    constructor
    · rintro ⟨h1, h2⟩ j hj
      rcases Nat.lt_succ_iff_lt_or_eq.1 hj with h | rfl
      · exact h1 j h
      · exact h2
    · exact fun h => ⟨fun j hj => h j (by omega), h n (by omega)⟩
theorem okTo_row {l : List Sb} {i n : Nat} (h : i + n ≤ l.length) : freeRow l i n = okTo l i n := by
  rw [Bool.eq_iff_iff, freeRow_iff, okTo_iff]
  exact ⟨fun x => x.2, fun x => ⟨h, x⟩⟩
set_option maxRecDepth 20000 in
set_option maxHeartbeats 4000000 in
theorem rtake_any (v : Value) (l : List Sb) (n : Nat) (w : World) (hR : Hid (RS w v l)) (few : l.length ≤ 64) (hn : n < 4294967296) :
    Calls Tryd.prog 48 #[v, .int .i64 (n : Nat)] w (RPost w (takeP l n)) := by
  have N0 := Lib.hid (OpBox.new w)
  have B0 := Lib.hid (box1 w (.cells #[.int .u64 0, .int .u64 0] 37))
  have R1 := Lib.hid (hR.out.next B0.out)
  have c0 := N0.out.z0
  have c1 := N0.out.z1
  have f0 := frozen_of (j := 0) N0.out
  have f1 := frozen_of (j := 1) N0.out
  obtain ⟨ra, rc, rfl⟩ := ORow.form R1.out
  go_enter Tryd.func48, Tryd.ntmps48
  go_wp2_with fail
  have NO : Hid (n = 0 ∨ rowTo' l n l.length = none → takeP l n = (l, (0, 0))) := fun h => by
    unfold takeP
    split
    · rfl
    case isFalse h1 => rw [h.resolve_left h1]
  have YES : Hid (∀ a, n ≠ 0 → rowTo' l n l.length = some a → takeP l n = (runP l a n (n - 1), (a + 1, 0))) := fun a h1 h2 => by
    unfold takeP; rw [if_neg h1, h2]
  generalize takeP l n = V at *
  generalize w.alloc (.cells #[.int .u64 0, .int .u64 0] 37) = w1 at *
  generalize hP : w.heap.size = P at *
  go_loop [6] (fun u6 => ∃ i : Nat, i ≤ l.length ∧ u6 = .int .i64 (i : Nat) ∧ Hid (∀ j, j < i → freeRow l j n = false)) (fun u6 => l.length + 1 - (intOf u6).toNat)
  case atStart => exact ⟨0, by omega, rfl, Lib.hid (fun j hj => absurd hj (by omega))⟩
  case round =>
    obtain ⟨i, hi, rfl, hno⟩ := hrel
    have wi : IntKind.i64.wrap ((i : Int) + (n : Int)) = (i : Int) + (n : Int) := by rw [IntKind.wrap_i64]; omega
    by_cases hgo : i + n ≤ l.length ∧ 1 ≤ n
    · obtain ⟨h1, h2⟩ := hgo
      have g1 : (i : Int) + (n : Int) ≤ (l.length : Int) := by omega
      have g2 : (1 : Int) ≤ (n : Int) := by omega
      go_wp2_with fail
      go_loop [7, 8] (fun u7 u8 => ∃ j : Nat, j ≤ n ∧ u8 = .int .i64 (j : Nat) ∧ u7 = .bool (okTo l i j)) (fun _ u8 => n - (intOf u8).toNat)
      case atStart => exact ⟨0, by omega, rfl, rfl⟩
      case round =>
        obtain ⟨j, hj, rfl, rfl⟩ := hrel
        by_cases hj1 : j < n
        · have g3 : (j : Int) < (n : Int) := by omega
          have wj : IntKind.i64.wrap ((i : Int) + (j : Int)) = (i : Int) + (j : Int) := by rw [IntKind.wrap_i64]; omega
          have wk : IntKind.i64.wrap ((j : Int) + 1) = (j : Int) + 1 := by rw [IntKind.wrap_i64]; omega
          have hs := Lib.hid (at_of (l := l) (i := i + j) (by omega))
          obtain ⟨rb, rc', hv, hrb, k0, k1⟩ := R1.out.kind hs.out
          cases hv
          have E1 : okTo l i (j + 1) = (okTo l i j && isFree (l.getD (i + j) Sb.none)) := rfl
          have g4 : (i : Int) + (j : Int) < (l.length : Int) := by omega
          generalize l.getD (i + j) Sb.none = s at *
          have k0' : w1.cell? ⟨rb, (i + j) * 3, none⟩ = some (.int .i64 (s.k : Int)) := k0
          have E2 : isFree s = decide ((s.k : Int) = 0) := by unfold isFree; rw [Bool.eq_iff_iff]; simp
          have hE := Lib.hid (E1.trans (by rw [E2]))
          clear E1 E2
          generalize okTo l i j = ok at *
          cases ok
          · go_wp2_with fail
            go_round
            case rel => exact ⟨j + 1, by omega, by push_cast; rfl, by rw [hE.out]; simp⟩
            case measure => simp [intOf]; omega
          · go_wp2_with fail
            go_round
            case rel => exact ⟨j + 1, by omega, by push_cast; rfl, by rw [hE.out]; simp; rw [Bool.eq_iff_iff]; simp⟩
            case measure => simp [intOf]; omega
        · obtain rfl : j = n := by omega
          have g3 : ¬ (j : Int) < (j : Int) := by omega
          have HF := Lib.hid (okTo_row h1)
          generalize okTo l i j = ok at *
          cases ok
          · have wk : IntKind.i64.wrap ((i : Int) + 1) = (i : Int) + 1 := by rw [IntKind.wrap_i64]; omega
            go_wp2_with fail
            go_round
            case rel =>
              refine ⟨i + 1, by omega, by push_cast; rfl, Lib.hid (fun k hk => ?_)⟩
              rcases Nat.lt_succ_iff_lt_or_eq.1 hk with h | rfl
              · exact hno.out k h
              · exact HF.out
            case measure => simp [intOf]; omega
          · have EV := Lib.hid (YES.out i (by omega) (rowTo_eq (k := l.length) (by omega) HF.out hno.out))
            have WI := Lib.hid (rwith_any (.slice ra l.length rc) l i ⟨2, j, 0⟩ w1 R1 (by omega) (by omega))
            go_wp2_with fail
            refine WI.out.mono ?_
            rintro e w2 ⟨v2, rfl, H5, O5⟩
            have R2 : Hid (RS w2 v2 (runP l i j 0)) := H5
            have B2 := Lib.hid O5
            clear H5 O5 WI
            go_wp2_with fail
            go_loopw [9, 10] (fun u9 u10 wr => ∃ k : Nat, k < j ∧ u10 = .int .i64 ((k + 1 : Nat) : Int) ∧ Hid (RS wr u9 (runP l i j k)) ∧ Hid (Below w1.heap.size w1 wr)) (fun _ u10 _ => j - (intOf u10).toNat)
            case atStart => exact ⟨0, by omega, rfl, R2, B2⟩
            case round =>
              obtain ⟨k, hk, rfl, Rk, Bk⟩ := hrel
              by_cases hk1 : k + 1 < j
              · have g5 : (k : Int) + 1 < (j : Int) := by omega
                have wa : IntKind.i64.wrap ((i : Int) + ((k : Int) + 1)) = (i : Int) + ((k : Int) + 1) := by rw [IntKind.wrap_i64]; omega
                have wb : IntKind.i64.wrap ((k : Int) + 1 + 1) = (k : Int) + 1 + 1 := by rw [IntKind.wrap_i64]; omega
                have WI := Lib.hid (rwith_any u9 (runP l i j k) (i + (k + 1)) ⟨3, 0, 0⟩ wr Rk (by rw [runP_len]; omega) (by rw [runP_len]; omega))
                rw [show ((i + (k + 1) : Nat) : Int) = (i : Int) + ((k : Int) + 1) from by omega] at WI
                go_wp2_with fail
                refine WI.out.mono ?_
                rintro e w5 ⟨v', rfl, H5, O5⟩
                have Rk2 : Hid (RS w5 v' (runP l i j (k + 1))) := H5
                have Bk2 : Hid (Below w1.heap.size w1 w5) := Bk.out.trans (O5.mono Bk.out.size)
                clear H5 O5 WI
                go_wp2_with fail
                go_roundw
                case rel => exact ⟨k + 1, by omega, by push_cast; rfl, Rk2, Bk2⟩
                case measure => simp [intOf]; omega
              · obtain rfl : j = k + 1 := by omega
                have M4 := Lib.hid (N0.out.next Bk.out)
                have c0 := M4.out.z0
                have c1 := M4.out.z1
                have f0 := frozen_of (j := 0) M4.out
                have f1 := frozen_of (j := 1) M4.out
                have e1 : IntKind.i64.wrap ((i : Int) + 1) = (i : Int) + 1 := by rw [IntKind.wrap_i64]; omega
                have e2 : IntKind.u64.wrap ((i : Int) + 1) = (i : Int) + 1 := by rw [IntKind.wrap_u64]; omega
                go_wp2_with fail
                have R := M4.out.set (i + 1) 0
                have r0 := R.c0
                have r1 := R.c1
                rw [show ((i + 1 : Nat) : Int) = (i : Int) + 1 from by omega, show ((0 : Nat) : Int) = 0 from rfl] at r0 r1
                have B5 : Below P w wr := B0.out.trans (Bk.out.mono (by have := B0.out.size; omega))
                exact bodyPost_ret (v := .tuple #[u9, .agg #[.int .u64 ((i : Int) + 1), .int .u64 0]]) (by simp [results, Tryd.results48, go_sem, r0, r1]) rfl ⟨u9, by rw [EV.out]; rfl, by rw [EV.out]; exact Rk.out.op M4.out (only_op _ _), by rw [← hP] at B5 ⊢; exact below_set (below_set B5 (Nat.le_refl _)) (Nat.le_refl _)⟩
    · have EV := Lib.hid (NO.out (by
        by_cases h0 : n = 0
        · exact .inl h0
        · refine .inr (rowTo_eq_none fun j hj => ?_)
          by_cases hji : j < i
          · exact hno.out j hji
          · rw [Bool.eq_false_iff]; intro h; have := (freeRow_iff.1 h).1; omega))
      have R := N0.out.zero
      have BZ : Hid (Below P w ((w1.setCell ⟨P, 0, none⟩ (.int .u64 0)).setCell ⟨P, 1, none⟩ (.int .u64 0))) := by
        rw [← hP]; rw [← hP] at B0; exact below_set (below_set B0.out (Nat.le_refl _)) (Nat.le_refl _)
      by_cases h0 : n = 0
      · subst h0
        have g1 : (i : Int) + (0 : Int) ≤ (l.length : Int) := by omega
        have wi0 : IntKind.i64.wrap (i : Int) = (i : Int) := by rw [IntKind.wrap_i64]; omega
        go_wp2_with fail
        exact bodyPost_ret (v := .tuple #[.slice ra l.length rc, .agg #[.int .u64 0, .int .u64 0]]) (by simp [results, Tryd.results48, go_sem, R.z0, R.z1]) rfl ⟨_, by rw [EV.out]; rfl, by rw [EV.out]; exact R1.out.op N0.out (only_op _ _), by rw [hP]; exact BZ.out⟩
      · have g1 : ¬ (i : Int) + (n : Int) ≤ (l.length : Int) := by omega
        go_wp2_with fail
        exact bodyPost_ret (v := .tuple #[.slice ra l.length rc, .agg #[.int .u64 0, .int .u64 0]]) (by simp [results, Tryd.results48, go_sem, R.z0, R.z1]) rfl ⟨_, by rw [EV.out]; rfl, by rw [EV.out]; exact R1.out.op N0.out (only_op _ _), by rw [hP]; exact BZ.out⟩
end Go.Proofs.YtkogeeaoppkhkaaDoor
