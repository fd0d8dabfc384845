/-
  Contract of the document's own answer of layer 3: Do.
-/
import Derived.Test.YtnjgajkcoahefaaMemR1
namespace Go.Proofs.Ytnjgajkcoahefaa
open Go.RowKit

theorem doSt_1 (s : MSt) (a : Int) (x old : Nat) : doSt s 1 a x old = s.begun 1 a := by simp [doSt]
theorem doSt_2 (s : MSt) (a : Int) (x old : Nat) : doSt s 2 a x old = (s.begun 2 a).put a x := by simp [doSt]
theorem doSt_3 (s : MSt) (a : Int) (x old : Nat) : doSt s 3 a x old = (s.begun 3 a).put a x := by simp [doSt]
theorem doSt_4 (s : MSt) (a : Int) (x old : Nat) : doSt s 4 a x old = s.swung a old x := by simp [doSt]
theorem doSt_5 (s : MSt) (a : Int) (x old : Nat) : doSt s 5 a x old = (s.begun 5 a).put a ((s.rd a + x) % 18446744073709551616) := by simp [doSt]
theorem do_ops (s : MSt) (k a : Int) (x old : Nat) : (doSt s k a x old).ops = s.ops + 1 := by
  unfold doSt
  split
  · unfold MSt.swung; split <;> rfl
  · split
    · rfl
    · split <;> rfl
theorem do_faults_in {s : MSt} {a : Int} (h : inM s a = true) (k : Int) (x old : Nat) : (doSt s k a x old).faults = s.faults := by
  unfold doSt
  split
  · unfold MSt.swung; split <;> exact begun_in (k := 4) h
  · split
    · exact begun_in (k := 5) h
    · split <;> exact begun_in (k := k) h
theorem do_faults_out {s : MSt} {a : Int} (h : inM s a = false) (k : Int) (x old : Nat) : (doSt s k a x old).faults = s.faults + 1 := by
  unfold doSt
  split
  · unfold MSt.swung; split <;> exact begun_out (k := 4) h
  · split
    · exact begun_out (k := 5) h
    · split <;> exact begun_out (k := k) h
theorem do_ws_out {s : MSt} {a : Int} (h : inM s a = false) (k : Int) (x old : Nat) : (doSt s k a x old).ws = s.ws := by
  unfold doSt
  split
  · rw [(swung_out h).2]; rfl
  · split
    · rw [put_no (s := s.begun 5 a) h]; rfl
    · split
      · rw [put_no (s := s.begun k a) h]; rfl
      · rfl
theorem put_len (s : MSt) (a : Int) (x : Nat) : (s.put a x).ws.length = s.ws.length := by
  unfold MSt.put
  show (if inM s a = true then s.ws.set a.toNat x else s.ws).length = _
  split
  · exact List.length_set
  · rfl
theorem do_len (s : MSt) (k a : Int) (x old : Nat) : (doSt s k a x old).ws.length = s.ws.length := by
  unfold doSt
  split
  · unfold MSt.swung; split
    · exact put_len (s.begun 4 a) a x
    · rfl
  · split
    · exact put_len (s.begun 5 a) a _
    · split
      · exact put_len (s.begun k a) a x
      · rfl
theorem doX_out {s : MSt} {a : Int} (h : inM s a = false) (k : Int) : doX s k a = 0 := by
  unfold doX; split
  · rfl
  · exact rd_no h
theorem doB_out {s : MSt} {a : Int} (h : inM s a = false) (k : Int) (old : Nat) : doB s k a old = false := by
  unfold doB; split
  · exact (swung_out (x := 0) h).1
  · rfl
theorem swings_in {s : MSt} {j old : Nat} (h : inM s (j : Int) = true) : s.swings j old = (s.ws.getD j 0 == old) := by
  unfold MSt.swings; rw [h, rd_yes h]; rfl
theorem put_in {s : MSt} {j : Nat} {k : Int} {x : Nat} (h : inM s (j : Int) = true) : ((s.begun k j).put j x).ws = s.ws.set j x := by
  obtain ⟨j', e, hl⟩ := inM_cases h
  obtain rfl : j = j' := by omega
  exact put_ws (s := s.begun k j) hl
theorem put_same {s : MSt} {j : Nat} : s.ws.set j (s.ws.getD j 0) = s.ws := by
  apply List.ext_getElem
  · simp
  · intro i h1 h2
    rw [List.getElem_set]
    split
    · rename_i e; subst e; simp at h1; simp [h1]
    · rfl

set_option maxHeartbeats 2000000 in
theorem rdo_any (b n cap : Nat) (ws : List Nat) (s : MSt) (o f : Int) (k a : Int) (x old : Nat) (w : World) (hn2 : n ≤ 255) (ho1 : 0 ≤ o) (ho2 : o < 4611686018427387904) (hf1 : 0 ≤ f) (hf2 : f < 4611686018427387904) (hk : Hid (k = 1 ∨ k = 2 ∨ k = 3 ∨ k = 4 ∨ k = 5)) (HWS : Hid (ws = s.ws)) (HO : Hid (o = (s.ops : Int))) (HF : Hid (f = (s.faults : Int))) (hw : Hid (n = ws.length)) (hr : Hid (WRow w (.slice (some ⟨b, 0, none⟩) n cap) ws)) :
    Calls Try.prog 43 #[.agg #[.slice (some ⟨b, 0, none⟩) n cap, .int .i64 o, .int .i64 f], .int .i64 k, .int .i64 a, .int .u64 x, .int .u64 old] w fun e w' => RDone w w' n s k a x old e := by
  obtain ⟨i0, hi, hz0, hz1, hz2⟩ := info_parts info64
  have k5 := Lib.hid ((Blk3.new w 28 (.slice (some ⟨b, 0, none⟩) n cap) (.int .i64 o) (.int .i64 f)).next ((Below.refl _ _).alloc (Nat.le_refl _) (.cells #[.slice none 0 0, .int .i64 0, .int .i64 0] 28)) (by simp))
  have kB := Lib.hid (((Below.refl w.heap.size w).alloc (Nat.le_refl _) (.cells #[.slice (some ⟨b, 0, none⟩) n cap, .int .i64 o, .int .i64 f] 28)).alloc (by simp) (.cells #[.slice none 0 0, .int .i64 0, .int .i64 0] 28))
  have k10 := Lib.hid (Blk3.new (w.alloc (.cells #[.slice (some ⟨b, 0, none⟩) n cap, .int .i64 o, .int .i64 f] 28)) 28 (.slice none 0 0) (.int .i64 0) (.int .i64 0))
  go_enter Try.func43, Try.ntmps43
  go_wp2_with fail
  have k10' : Hid (Blk3 ((w.alloc (.cells #[.slice (some ⟨b, 0, none⟩) n cap, .int .i64 o, .int .i64 f] 28)).alloc (.cells #[.slice none 0 0, .int .i64 0, .int .i64 0] 28)) (w.heap.size + 1) 28 (.slice none 0 0) (.int .i64 0) (.int .i64 0)) := by simpa using k10
  clear k10
  generalize (w.alloc (.cells #[.slice (some ⟨b, 0, none⟩) n cap, .int .i64 o, .int .i64 f] 28)).alloc (.cells #[.slice none 0 0, .int .i64 0, .int .i64 0] 28) = w0 at *
  obtain ⟨c0, c1, c2, _⟩ := k5.out.cells
  have hlt := k5.out.lt
  have hr0 : Hid (WRow w0 (.slice (some ⟨b, 0, none⟩) n cap) ws) := hr.out.next kB.out
  generalize hN5 : w.heap.size = N5 at *
  have HV : Hid (IntKind.i64.wrap (o + 1) = o + 1) := by
    show IntKind.i64.wrap (o + 1) = o + 1
    rw [IntKind.wrap_i64]; omega
  go_cut [13] (fun v wx => ∃ B gg cap1, v = .pointer (some ⟨B, 0, none⟩) ∧ OutAt w0 wx w0.heap.size B gg n cap1 ws (o + 1) f)
  case first =>
    go_region_held3 (fun w' => w'.cell? ⟨N5, 0, none⟩ = some (.slice (some ⟨b, 0, none⟩) n cap) ∧ w'.cell? ⟨N5, 1, none⟩ = some (.int .i64 o) ∧ w'.cell? ⟨N5, 2, none⟩ = some (.int .i64 f)) (first | go_keep | exact ⟨s0, s1, s2⟩ | exact ⟨(set3_cell (by omega) _ _ _).trans s0, (set3_cell (by omega) _ _ _).trans s1, (set3_cell (by omega) _ _ _).trans s2⟩) ((refine step_append_any _ (by rfl) _ _ _ (by rfl) 30 i0 _ 8 Try.underlying26 hi hz0 hz1 hz2 rfl _ (by rfl) (by first | exact own_empty _ _ (by simp) | exact (own_empty _ _ (by simp)).alloc _ | exact (own_empty _ _ (by simp)).drew | exact ((own_empty _ _ (by simp)).alloc _).drew) ⟨b, 0, none⟩ n cap (wordsOf ws).toList (by rfl) (by rw [words_len, ← hw.out]; omega) (src_of hw.out hr0.out (by repeat (first | exact Below.refl _ _ | refine Below.drew ?_ | refine Below.alloc ?_ (by simp <;> omega) _))) (words_one ws) (by unfold maxLen; omega) (by omega) _ rfl ?_; intro gg cap1 w1 hown1 hgrow hat hlt1; have hb1 : Below w0.heap.size w0 w1 := (app_below (by repeat (first | exact Below.refl _ _ | refine Below.drew ?_ | refine Below.alloc ?_ (by simp <;> omega) _)) (by simp <;> omega) hgrow (by intro k hk; first | (have h2 := Option.some.inj (show some w0.heap.size = some k from hk); omega) | (have h2 := Option.some.inj (show some (w0.heap.size + 1) = some k from hk); omega))); have s0 := (hb1.cell (p := ⟨N5, 0, none⟩) hlt).trans c0; have s1 := (hb1.cell (p := ⟨N5, 1, none⟩) hlt).trans c1; have s2 := (hb1.cell (p := ⟨N5, 2, none⟩) hlt).trans c2; first | (have k13 : Blk3 w1 (w0.heap.size + 1) 28 (.slice none 0 0) (.int .i64 0) (.int .i64 0) := Blk3.grown (blk_second w0 _ _ _ _ _) hgrow (fun e => by have h2 := Option.some.inj (show some (w0.heap.size + 1) = some w0.heap.size from e); omega); have hG : gg = w0.heap.size ∨ gg = w0.heap.size + 2 := hat.elim (fun h => .inl (show gg = w0.heap.size from h)) (fun h => .inr (h.trans (by simp [World.drew]))); have K13 := Lib.hid k13; obtain ⟨d0, d1, d2, dz⟩ := k13.cells; clear k13 hat hgrow) | (have k13 : Blk3 w1 w0.heap.size 28 (.slice none 0 0) (.int .i64 0) (.int .i64 0) := Blk3.grown (blk_first w0 _ _ _ _ _) hgrow (fun e => by have h2 := Option.some.inj (show some w0.heap.size = some (w0.heap.size + 1) from e); omega); have hG : gg = w0.heap.size + 1 ∨ gg = w0.heap.size + 2 := hat.elim (fun h => .inl (show gg = w0.heap.size + 1 from h)) (fun h => .inr (h.trans (by simp [World.drew]))); have K13 := Lib.hid k13; obtain ⟨d0, d1, d2, dz⟩ := k13.cells; clear k13 hat hgrow) | (have hG : gg = w0.heap.size ∨ gg = w0.heap.size + 1 := hat.elim (fun h => .inl (show gg = w0.heap.size from h)) (fun h => .inr (h.trans (by simp [World.drew]))); clear hat hgrow)))
    all_goals
      rw [HV.out]
      have hR1 := wrow_of hown1 hw.out
      have hg1 : w0.heap.size ≤ gg := by omega
      go_wp2_with fail
      go_meet
      case rel => first | exact ⟨_, gg, cap1, rfl, out_one hw.out hR1 hlt1 hb1 hg1⟩ | exact ⟨_, gg, cap1, rfl, out_two hw.out hR1 K13.out hb1 hg1 (by omega) (by omega)⟩
  case rest =>
    obtain ⟨B, gg, cap1, rfl, hO⟩ := hcut
    have l10 := k10'.out.lt
    have hOB := hO.hB
    have hOg := hO.hg
    have d0 : D3 w wc N5 B gg n cap1 (.slice (some ⟨b, 0, none⟩) n cap) o f ws (o + 1) f :=
      ⟨k5.out.next hO.bel hlt, k10'.out.next hO.bel l10, hO.out, hO.row, hw.out, by omega, by omega, hO.ne, kB.out.trans (hO.bel.mono (Nat.le_of_lt hlt))⟩
    have D0 := Lib.hid d0
    have hrc : Hid (WRow wc (.slice (some ⟨b, 0, none⟩) n cap) ws) := hr.out.next (by rw [hN5]; exact d0.bel)
    clear c0 c1 c2 hO
    obtain ⟨c0, c1, c2, _⟩ := d0.inp.cells
    clear d0 k5 k10' kB hr0 HV hOB hOg l10 hlt
    go_wp2_with fail
    refine (rin_any _ n cap _ o f a _ rfl).mono ?_
    rintro e w3 ⟨rfl, hb3⟩
    have d3 := D0.out.next hb3 (Nat.le_of_lt D0.out.inp.lt)
    have hr3 : Hid (WRow w3 (.slice (some ⟨b, 0, none⟩) n cap) ws) := hrc.out.next hb3
    have D := Lib.hid d3
    have HIN : Hid (inM s a = (decide (0 ≤ a) && decide (a < n))) := by
      show inM s a = _
      rw [hw.out, HWS.out]; rfl
    obtain ⟨p0, p1, p2, pz⟩ := d3.out.cells
    obtain ⟨q0, q1, q2, qz⟩ := d3.res.cells
    clear c0 c1 c2
    obtain ⟨c0, c1, c2, _⟩ := d3.inp.cells
    have HN5 := Lib.hid hN5
    have hn1 : N5 + 1 < B := d3.n1
    have hn2' : N5 + 1 < gg := d3.n2
    have hn3 : ¬ B = gg := d3.n3
    have hn4 : ¬ gg = B := fun e => d3.n3 e.symm
    have hn5 : ¬ B = N5 + 1 := by omega
    have hn6 : ¬ gg = N5 + 1 := by omega
    have hn7 : ¬ N5 + 1 = B := by omega
    have hn8 : ¬ N5 + 1 = gg := by omega
    clear hb3 D0 hrc d3 hN5
    rcases hin : (decide (0 ≤ a) && decide (a < (n : Int))) with _ | _
    · have hI : Hid (inM s a = false) := by show inM s a = false; rw [HIN.out, hin]
      have DF := Lib.hid ((D.out.fault (f + 1)).done (.slice (some ⟨gg, 0, none⟩) n cap1) (.int .i64 (o + 1)) (.int .i64 (f + 1)))
      clear hin
      go_wp2_with fail
      obtain ⟨r0, r1, r2, _⟩ := DF.out.1.cells
      exact bodyPost_ret (v := .tuple #[.agg #[.slice (some ⟨gg, 0, none⟩) n cap1, .int .i64 (o + 1), .int .i64 (f + 1)], .int .u64 0, .bool false]) (by simp [results, Try.results43, go_sem, r0, r1, r2]) rfl
        (rdone (y := 0) (by rw [do_ops, HO.out]; rfl) (by rw [do_faults_out hI.out, HF.out]; rfl) (doX_out hI.out k).symm (doB_out hI.out k old).symm (by rw [do_ws_out hI.out]; exact HWS.out) DF.out.2.1 (by rw [HN5.out]; omega) (by rw [HN5.out]; exact DF.out.2.2))
    · have hI0 : inM s a = true := by rw [HIN.out, hin]
      obtain ⟨j, rfl, hj0⟩ := inM_cases hI0
      have hI := Lib.hid hI0
      have hj : j < n := by rw [hw.out, HWS.out]; exact hj0
      have cj := hr3.out.at hw.out hj
      have gj := D.out.row.at D.out.len hj
      have gz := D.out.row.fz D.out.len j
      have HJ : Hid (ws.getD j 0 = s.ws.getD j 0) := by show ws.getD j 0 = _; rw [HWS.out]
      have HRD : Hid (s.rd j = ws.getD j 0) := by show s.rd j = _; rw [rd_yes hI0, HWS.out]
      generalize ws.getD j 0 = v at *
      have lj : (j : Int) < (n : Int) := by omega
      clear hin hI0 hj0
      rcases hk.out with rfl | rfl | rfl | rfl | rfl
      · have DF := Lib.hid (D.out.done (.slice (some ⟨gg, 0, none⟩) n cap1) (.int .i64 (o + 1)) (.int .i64 f))
        go_wp2_with fail
        obtain ⟨r0, r1, r2, _⟩ := DF.out.1.cells
        exact bodyPost_ret (v := .tuple #[.agg #[.slice (some ⟨gg, 0, none⟩) n cap1, .int .i64 (o + 1), .int .i64 f], .int .u64 (v : Int), .bool false]) (by simp [results, Try.results43, go_sem, r0, r1, r2]) rfl
          (rdone (by rw [do_ops, HO.out]; rfl) (by rw [do_faults_in hI.out, HF.out]) (by simp [doX, HRD.out]) (by simp [doB]) (by rw [doSt_1]; exact HWS.out) DF.out.2.1 (by rw [HN5.out]; omega) (by rw [HN5.out]; exact DF.out.2.2))
      · have DF := Lib.hid ((D.out.write j x).done (.slice (some ⟨gg, 0, none⟩) n cap1) (.int .i64 (o + 1)) (.int .i64 f))
        go_wp2_with fail
        obtain ⟨r0, r1, r2, _⟩ := DF.out.1.cells
        exact bodyPost_ret (v := .tuple #[.agg #[.slice (some ⟨gg, 0, none⟩) n cap1, .int .i64 (o + 1), .int .i64 f], .int .u64 0, .bool false]) (by simp [results, Try.results43, go_sem, r0, r1, r2]) rfl
          (rdone (y := 0) (by rw [do_ops, HO.out]; rfl) (by rw [do_faults_in hI.out, HF.out]) (by simp [doX]) (by simp [doB]) (by rw [doSt_2, put_in hI.out, HWS.out]) DF.out.2.1 (by rw [HN5.out]; omega) (by rw [HN5.out]; exact DF.out.2.2))
      · have DF := Lib.hid ((D.out.write j x).done (.slice (some ⟨gg, 0, none⟩) n cap1) (.int .i64 (o + 1)) (.int .i64 f))
        go_wp2_with fail
        obtain ⟨r0, r1, r2, _⟩ := DF.out.1.cells
        exact bodyPost_ret (v := .tuple #[.agg #[.slice (some ⟨gg, 0, none⟩) n cap1, .int .i64 (o + 1), .int .i64 f], .int .u64 (v : Int), .bool false]) (by simp [results, Try.results43, go_sem, r0, r1, r2]) rfl
          (rdone (by rw [do_ops, HO.out]; rfl) (by rw [do_faults_in hI.out, HF.out]) (by simp [doX, HRD.out]) (by simp [doB]) (by rw [doSt_3, put_in hI.out, HWS.out]) DF.out.2.1 (by rw [HN5.out]; omega) (by rw [HN5.out]; exact DF.out.2.2))
      · by_cases hv : v = old
        · subst hv
          have DF := Lib.hid ((D.out.write j x).done (.slice (some ⟨gg, 0, none⟩) n cap1) (.int .i64 (o + 1)) (.int .i64 f))
          have HS : Hid (s.swings (j : Int) v = true) := by show s.swings _ _ = true; rw [swings_in hI.out, ← HJ.out]; simp
          go_wp2_with fail
          obtain ⟨r0, r1, r2, _⟩ := DF.out.1.cells
          exact bodyPost_ret (v := .tuple #[.agg #[.slice (some ⟨gg, 0, none⟩) n cap1, .int .i64 (o + 1), .int .i64 f], .int .u64 0, .bool true]) (by simp [results, Try.results43, go_sem, r0, r1, r2]) rfl
            (rdone (y := 0) (by rw [do_ops, HO.out]; rfl) (by rw [do_faults_in hI.out, HF.out]) (by simp [doX]) (by simp [doB, HS.out]) (by rw [doSt_4, MSt.swung, HS.out, if_pos rfl, put_in hI.out, HWS.out]) DF.out.2.1 (by rw [HN5.out]; omega) (by rw [HN5.out]; exact DF.out.2.2))
        · have hv2 : ((v : Int) != (old : Int)) = true := by simp; omega
          have DF := Lib.hid (D.out.done (.slice (some ⟨gg, 0, none⟩) n cap1) (.int .i64 (o + 1)) (.int .i64 f))
          have HS : Hid (s.swings (j : Int) old = false) := by show s.swings _ _ = false; rw [swings_in hI.out, ← HJ.out]; simpa using hv
          clear hv
          go_wp2_with fail
          obtain ⟨r0, r1, r2, _⟩ := DF.out.1.cells
          exact bodyPost_ret (v := .tuple #[.agg #[.slice (some ⟨gg, 0, none⟩) n cap1, .int .i64 (o + 1), .int .i64 f], .int .u64 0, .bool false]) (by simp [results, Try.results43, go_sem, r0, r1, r2]) rfl
            (rdone (y := 0) (by rw [do_ops, HO.out]; rfl) (by rw [do_faults_in hI.out, HF.out]) (by simp [doX]) (by simp [doB, HS.out]) (by rw [doSt_4, MSt.swung, HS.out, if_neg (by decide)]; exact HWS.out) DF.out.2.1 (by rw [HN5.out]; omega) (by rw [HN5.out]; exact DF.out.2.2))
      · obtain ⟨q, hq⟩ : ∃ q, q = (v + x) % 18446744073709551616 := ⟨_, rfl⟩
        have HV : Hid (IntKind.u64.wrap ((v : Int) + (x : Int)) = (q : Int)) := by
          show IntKind.u64.wrap ((v : Int) + (x : Int)) = _
          rw [IntKind.wrap_u64]; omega
        have HQ := Lib.hid hq
        clear hq
        have DF := Lib.hid ((D.out.write j q).done (.slice (some ⟨gg, 0, none⟩) n cap1) (.int .i64 (o + 1)) (.int .i64 f))
        go_wp2_with fail
        rw [HV.out]
        obtain ⟨r0, r1, r2, _⟩ := DF.out.1.cells
        exact bodyPost_ret (v := .tuple #[.agg #[.slice (some ⟨gg, 0, none⟩) n cap1, .int .i64 (o + 1), .int .i64 f], .int .u64 (v : Int), .bool false]) (by simp [results, Try.results43, go_sem, r0, r1, r2]) rfl
          (rdone (by rw [do_ops, HO.out]; rfl) (by rw [do_faults_in hI.out, HF.out]) (by simp [doX, HRD.out]) (by simp [doB]) (by rw [doSt_5, put_in hI.out, HRD.out, ← HQ.out, HWS.out]) DF.out.2.1 (by rw [HN5.out]; omega) (by rw [HN5.out]; exact DF.out.2.2))

end Go.Proofs.Ytnjgajkcoahefaa
