/-
  The walk of the statement ObjParts: what is asked in two parts, the second one of the words that the first one left, is as what is asked at once.
-/
import Derived.Test.YtmdjhjfmnkileaaWObjUndoes
import Derived.Deep.RegionHeld3
import Derived.Test.YtmdjhjfmnkileaaAppS
namespace Go.Proofs.Ytmdjhjfmnkileaa
open Go.RowKit Go.Sort

/-- Many more, onto a row of the program's own. -/
theorem OpRow.many {w : World} {v : Value} {l : List Op2} {ao : Option Addr} {m c : Nat} {f : Nat → Op2} (h : OpRow w v l) (hr : RowO w ao m f) (hnil : ao = none → m = 0 ∧ c = 0) (few : l.length + m ≤ 1048576) (ty : TypeId) :
    ∃ v' w', (Builtin.append_ #[22, 22] ty #[v, .slice ao m c]).run Try.prog w = .ok v' w' ∧ OpRow w' v' (l ++ opsOf f m) ∧ w.grownBy w' v.ownBlock ∧ (v'.ownBlock = v.ownBlock ∨ v'.ownBlock = some w.heap.size) := by
  obtain ⟨i, hi, hz, hs, hb⟩ := info_parts' infoOp
  have h' : w.ownsRow 0 40 2 v l.length (l.flatMap opE) := h
  cases ao with
  | none =>
    obtain ⟨rfl, rfl⟩ := hnil rfl
    refine ⟨v, w, run_append_owned_none (P := Try.prog) w 0 _ ty _ i 2 Try.underlying22 hi _ _ _ h', ?_, World.grownBy.refl _ _, .inl rfl⟩
    simpa [opsOf] using h
  | some ad =>
    have hnews : ∀ j u, ((opsOf f m).flatMap opE)[j]? = some u → w.cell? (ad.add j) = some u := fun j u hu => by
      have hj : j < m * 2 := by have := (List.getElem?_eq_some_iff.1 hu).1; rwa [flat_len opEnc, opsOf_len] at this
      obtain ⟨b, off, e, _, hc⟩ := hr.2 (by omega)
      cases e
      have hj2 : j / 2 < m := by omega
      have hq : (opsOf f m)[j / 2]? = some (f (j / 2)) := by simp [opsOf, hj2]
      rcases Nat.mod_two_eq_zero_or_one j with e | e
      · have := flat_at opEnc hq (j := 0) (by omega)
        rw [show j / 2 * 2 + 0 = j by omega, hu] at this
        rw [Addr.add_lit, show off + j = off + j / 2 * 2 by omega, (hc (j / 2) (by omega)).1, this]; rfl
      · have := flat_at opEnc hq (j := 1) (by omega)
        rw [show j / 2 * 2 + 1 = j by omega, hu] at this
        rw [Addr.add_lit, show off + j = off + j / 2 * 2 + 1 by omega, (hc (j / 2) (by omega)).2, this]; rfl
    obtain ⟨v', w', h1, h2, h3, _, h5⟩ := run_append_own_at (P := Try.prog) w 0 22 ty 40 i _ 2 16 Try.underlying22 hi hz hs hb rfl (by omega) v l.length (l.flatMap opE) h' ad m c ((opsOf f m).flatMap opE) (by rw [flat_len opEnc, opsOf_len]) hnews (flat_one opEnc _) (by unfold maxLen; omega) (by omega) (Nat.zero_le _)
    refine ⟨v', w', h1, ?_, h3, h5⟩
    show w'.ownsRow 0 40 2 v' (l ++ opsOf f m).length ((l ++ opsOf f m).flatMap opE)
    rw [List.flatMap_append, List.length_append, opsOf_len]
    exact h2
theorem replay_l (r : Int) (v : Value) (l : List Op2) (w : World) (h : OpRow w v l) (ok : Okay l) (hl : l.length ≤ 1048576) :
    Calls Try.prog 9 #[.iface 36 (.agg #[.int .i64 r]), v] w fun e w' => ∃ va b, e = .returned (.tuple #[va, .slice (some ⟨b, 0, none⟩) (roomN r + 1) (roomN r + 1)]) ∧ OpRow w' va (repA (some r) l) ∧ w'.heap[b]? = some (.cells (wordsOf (repW (some r) l)) 29 (0, 0)) ∧ (∀ q, va.ownBlock = some q → w.heap.size ≤ q ∧ q ≠ b) ∧ w.heap.size ≤ b ∧ Below w.heap.size w w' := by
  obtain ⟨a, c, rfl, hr⟩ := h.row ok
  have := replay_any (some r) a l.length c (fun j => l.getD j (0, 0)) w (Lib.hid hr) hl
  rw [opsOf_list] at this
  exact this
set_option maxRecDepth 20000 in
set_option maxHeartbeats 4000000 in
theorem parts_walk (m : Nat) (a : Option Addr) (len cap : Nat) (f : Nat → Op2) (a2 : Option Addr) (len2 cap2 : Nat) (f2 : Nat → Op2) (w : World) (h : Hid (RowO w a len f)) (h2 : Hid (RowO w a2 len2 f2)) (hl : len < 9223372036854775808) (hl2 : len2 < 9223372036854775808) (hm : m < 256) (hn : Hid (a = none → len = 0 ∧ cap = 0)) (hn2 : Hid (a2 = none → len2 = 0 ∧ cap2 = 0)) :
    Calls Try.prog 5 #[.int .u8 m, .slice a len cap, .slice a2 len2 cap2] w fun e w' => e = .returned (.bool true) ∧ Below w.heap.size w w' := by
  have EWM : IntKind.i64.wrap (m : Int) = (m : Int) := by simp only [IntKind.wrap_i64]; omega
  go_enter Try.func5, Try.ntmps5
  go_wp2_with fail
  refine (speaks9 _).mono ?_
  rintro e w1 ⟨rfl, hb⟩
  have B1 := Lib.hid hb
  clear hb
  by_cases k1 : 100 < len
  · have d1 : decide (100 < len) = true := by simpa using k1
    have d1' : decide ((100 : Int) < (len : Int)) = true := by simp; omega
    go_wp2_with fail
    go_ret
    exact ⟨rfl, B1.out⟩
  have d1 : decide (100 < len) = false := by simpa using k1
  have d1' : decide ((100 : Int) < (len : Int)) = false := by simp; omega
  by_cases k2 : 100 < len2
  · have d2 : decide (100 < len2) = true := by simpa using k2
    have d2' : decide ((100 : Int) < (len2 : Int)) = true := by simp; omega
    go_wp2_with fail
    go_ret
    exact ⟨rfl, B1.out⟩
  have d2 : decide (100 < len2) = false := by simpa using k2
  have d2' : decide ((100 : Int) < (len2 : Int)) = false := by simp; omega
  have OK := Lib.hid (okay_ops h.out len)
  have OK2 := Lib.hid (okay_ops h2.out len2)
  have N2 := Lib.hid (heap_new w1 (.cells #[.int .i64 (m : Int)] 36))
  have B2 := Lib.hid (below_two B1.out (box1 w1 (.cells #[.int .i64 (m : Int)] 36)))
  have RM := Lib.hid (room_u8 m hm)
  have ls := B1.out.size
  go_wp2_with fail
  generalize w1.alloc (.cells #[.int .i64 (m : Int)] 36) = w2 at *
  generalize hS : w1.heap.size = sb at *
  refine wp_region_noPanic ?_
  refine wp_region_held_drew (S := fun w' => w'.cell? ⟨sb, 0, none⟩ = some (.int .i64 (m : Int))) (by kernel_rfl) (by show w2.cell? _ = _; rw [cell_of N2.out]; rfl) (fun hHeld => ?_)
  have B3 : Hid (Below w.heap.size w w2.drew) := B2.out.trans ((Below.refl _ _).drew)
  have N3 : Hid (w2.drew.heap[sb]? = _) := N2.out
  generalize w2.drew = w3 at *
  clear B2 N2
  refine wpAnyH_take (i := 0) (v := .agg #[.int .i64 (m : Int)]) rfl (by kernel_rfl) (by kernel_rfl) (by kernel_rfl) (fun _ _ _ h => h) (Or.inl ⟨by rfl, fun w hSw => by go_simp⟩) (by assumption) ?_
  change wpAnyH _ _ _ _ _ _ _ (Act.put _ (some 29) _) _
  simp only [Act.put, List.setIfInBounds_toArray, List.set_cons_zero, List.set_cons_succ]
  refine wpAnyH_take (i := 1) (v := .iface 36 (.agg #[.int .i64 (m : Int)])) rfl (by kernel_rfl) (by kernel_rfl) (by kernel_rfl) (fun _ _ _ h => h) (Or.inl ⟨by rfl, fun w hSw => by go_simp⟩) (by assumption) ?_
  change wpAnyH _ _ _ _ _ _ _ (Act.put _ (some 30) _) _
  simp only [Act.put, List.setIfInBounds_toArray, List.set_cons_zero, List.set_cons_succ]
  refine wpAnyH_take (i := 3) (v := .slice a len cap) rfl (by kernel_rfl) (by kernel_rfl) (by kernel_rfl) (fun _ _ _ h => h) (Or.inl ⟨by rfl, fun w hSw => by go_simp⟩) (by assumption) ?_
  change wpAnyH _ _ _ _ _ _ _ (Act.put _ (some 32) _) _
  simp only [Act.put, List.setIfInBounds_toArray, List.set_cons_zero, List.set_cons_succ]
  refine wpAnyH_take (i := 5) (v := .slice a2 len2 cap2) rfl (by kernel_rfl) (by kernel_rfl) (by kernel_rfl) (fun _ _ _ h => h) (Or.inl ⟨by rfl, fun w hSw => by go_simp⟩) (by assumption) ?_
  change wpAnyH _ _ _ _ _ _ _ (Act.put _ (some 34) _) _
  simp only [Act.put, List.setIfInBounds_toArray, List.set_cons_zero, List.set_cons_succ]
  clear hHeld
  refine wpAnyH_ready (rs := [2]) (by kernel_rfl) (by simp) ?_
  refine AllReadyH.cons rfl (fun K hK => ?_) AllReadyH.nil
  have Y4 := box1 w3 (.cells #[] 40)
  have B4 := Lib.hid (below_two B3.out Y4)
  have N4 : Hid (_ = _) := (Y4.block _ (heap_lt N3.out)).trans N3.out
  have R4 := Lib.hid (OpRow.empty w3)
  have lw3 := B3.out.size
  have l4 := heap_lt N3.out
  clear Y4
  go_simp
  refine hK.out _ _ (by rw [cell_of N4.out]; rfl) (fun hHeld => ?_)
  clear hK K hHeld
  generalize w3.alloc (.cells #[] 40) = w4 at *
  generalize hb0 : w3.heap.size = b0 at *
  refine wpAnyH_ready (rs := [4]) (by kernel_rfl) (by simp) ?_
  refine AllReadyH.cons rfl (fun K hK => ?_) AllReadyH.nil
  obtain ⟨v5, w5, hrun, p1, p2, p3⟩ := OpRow.many R4.out (h.out.next B4.out) hn.out (by simp; omega) 22
  rw [List.nil_append] at p1
  have N5 : Hid (w5.heap[sb]? = _) := (p2.block _ (heap_lt N4.out) (by simp [Value.ownBlock]; omega)).trans N4.out
  have B5 := Lib.hid (app_below' B4.out B4.out.size p2 (fun k hk => by simp [Value.ownBlock] at hk; omega))
  have s4 := B4.out.size
  have Q5 : Hid (∀ q, v5.ownBlock = some q → q ≠ sb ∧ w.heap.size ≤ q) := by
    intro q hq
    have := heap_lt N4.out
    rcases p3 with e | e
    · rw [e] at hq; simp [Value.ownBlock] at hq; omega
    · rw [e] at hq; simp at hq; omega
  have R5 := Lib.hid p1
  refine step_append_by rfl _ _ 22 22 rfl _ _ (by simp [Act.eval]) (by simp [Act.eval]) hrun ?_
  refine hK.out _ _ (by rw [cell_of N5.out]; rfl) (fun hHeld => ?_)
  clear hK K hrun p1 p2 p3 hHeld R4 B4 N4
  change wpAnyH _ _ _ _ _ _ _ (Act.put _ (some 33) _) _
  simp only [Act.put, List.setIfInBounds_toArray, List.set_cons_zero, List.set_cons_succ]
  refine wpAnyH_ready (rs := [6]) (by kernel_rfl) (by simp) ?_
  refine AllReadyH.cons rfl (fun K hK => ?_) AllReadyH.nil
  obtain ⟨v6, w6, hrun, p1, p2, p3⟩ := OpRow.many R5.out (h2.out.next B5.out) hn2.out (by rw [opsOf_len]; omega) 22
  have N6 : Hid (w6.heap[sb]? = _) := (p2.block _ (heap_lt N5.out) (fun e => (Q5.out sb e.symm).1 rfl)).trans N5.out
  have B6 := Lib.hid (app_below' B5.out B5.out.size p2 (fun k hk => (Q5.out k hk).2))
  have R6 := Lib.hid p1
  refine step_append_by rfl _ _ 22 22 rfl _ _ (by simp [Act.eval]) (by simp [Act.eval]) hrun ?_
  refine hK.out _ _ (by rw [cell_of N6.out]; rfl) (fun hHeld => ?_)
  clear hK K hrun p1 p2 p3 hHeld R5 B5 N5 Q5
  change wpAnyH _ _ _ _ _ _ _ (Act.put _ (some 35) _) _
  simp only [Act.put, List.setIfInBounds_toArray, List.set_cons_zero, List.set_cons_succ]
  have OK12 : Hid (Okay (opsOf f len ++ opsOf f2 len2)) := fun x hx => by
    rcases List.mem_append.1 hx with q | q
    · exact OK.out x q
    · exact OK2.out x q
  have LN12 : Hid ((opsOf f len ++ opsOf f2 len2).length = len + len2) := by show _ = _; rw [List.length_append, opsOf_len, opsOf_len]
  refine wpAnyH_ready (rs := [7]) (by kernel_rfl) (by simp) ?_
  refine AllReadyH.cons rfl (fun K hK => ?_) AllReadyH.nil
  have CALL := Lib.hid (replay_l (m : Int) v6 _ w6 R6.out OK12.out (by rw [LN12.out]; omega))
  rw [RM.out] at CALL
  go_simp
  refine CALL.out.mono ?_
  rintro e w7 ⟨va, be, rfl, q1, q2, _, q4, hb⟩
  have B7 := Lib.hid (below_two B6.out hb)
  have N7 : Hid (w7.heap[sb]? = _) := (hb.block _ (heap_lt N6.out)).trans N6.out
  have RA := Lib.hid q1
  have RE := Lib.hid q2
  clear hb q1 q2 q4 CALL
  go_wp2_with fail
  refine hK.out _ _ (by rw [cell_of N7.out]; rfl) (fun hHeld => ?_)
  clear hK K
  refine wpAnyH_take (i := 8) (v := .tuple #[va, .slice (some ⟨be, 0, none⟩) (m + 1) (m + 1)]) rfl (by kernel_rfl) (by kernel_rfl) (by kernel_rfl) (fun _ _ _ h => h) (Or.inl ⟨by rfl, fun w hSw => by go_simp⟩) (by assumption) ?_
  change wpAnyH _ _ _ _ _ _ _ (Act.put _ (some 28) _) _
  simp only [Act.put, List.setIfInBounds_toArray, List.set_cons_zero, List.set_cons_succ]
  refine wpAnyH_take (i := 9) (v := va) rfl (by kernel_rfl) (by kernel_rfl) (by kernel_rfl) (fun _ _ _ h => h) (Or.inl ⟨by rfl, fun w hSw => by go_simp⟩) (by assumption) ?_
  change wpAnyH _ _ _ _ _ _ _ (Act.put _ (some 37) _) _
  simp only [Act.put, List.setIfInBounds_toArray, List.set_cons_zero, List.set_cons_succ]
  refine wpAnyH_take (i := 10) (v := .slice (some ⟨be, 0, none⟩) (m + 1) (m + 1)) rfl (by kernel_rfl) (by kernel_rfl) (by kernel_rfl) (fun _ _ _ h => h) (Or.inl ⟨by rfl, fun w hSw => by go_simp⟩) (by assumption) ?_
  change wpAnyH _ _ _ _ _ _ _ (Act.put _ (some 38) _) _
  simp only [Act.put, List.setIfInBounds_toArray, List.set_cons_zero, List.set_cons_succ]
  refine wpAnyH_take (i := 11) (v := va) rfl (by kernel_rfl) (by kernel_rfl) (by kernel_rfl) (fun _ _ _ h => h) (Or.inl ⟨by rfl, fun w hSw => by go_simp⟩) (by assumption) ?_
  change wpAnyH _ _ _ _ _ _ _ (Act.put _ (some 8) _) _
  simp only [Act.put, List.setIfInBounds_toArray, List.set_cons_zero, List.set_cons_succ]
  refine wpAnyH_take (i := 12) (v := .slice (some ⟨be, 0, none⟩) (m + 1) (m + 1)) rfl (by kernel_rfl) (by kernel_rfl) (by kernel_rfl) (fun _ _ _ h => h) (Or.inl ⟨by rfl, fun w hSw => by go_simp⟩) (by assumption) ?_
  change wpAnyH _ _ _ _ _ _ _ (Act.put _ (some 9) _) _
  simp only [Act.put, List.setIfInBounds_toArray, List.set_cons_zero, List.set_cons_succ]
  refine wpAnyH_done (by kernel_rfl) ?_ _
  refine NoPanic.normal ?_
  clear hHeld R6 B6 N6
  have s7 : w7.cell? ⟨sb, 0, none⟩ = some (.int .i64 (m : Int)) := by rw [cell_of N7.out]; rfl
  go_wp2_with fail
  have CALL := Lib.hid (replay_any (some (m : Int)) a len cap f w7 (Lib.hid (h.out.next B7.out)) (by omega))
  have EM : Hid (obW (some (m : Int)) = m + 1) := by show roomN (m : Int) + 1 = _; rw [RM.out]
  rw [EM.out] at CALL
  refine CALL.out.mono ?_
  rintro e w8 ⟨vb, b, rfl, q1, q2, q3, q4, hb⟩
  have G8 := Lib.hid hb
  have RB := Lib.hid q1
  have RW := Lib.hid q2
  have QB := Lib.hid q3
  have lb := q4
  clear hb q1 q2 q3 q4 CALL
  have AP := Lib.hid fun A B (M : List Nat) w1 h1 h2 h3 => sapply_any (m : Int) b (m + 1) (m + 1) A B M w1 h1 (by rw [RM.out]) h2 h3
  have RLN := Lib.hid fun l => (repW_len (some (m : Int)) l).trans EM.out
  have ls7 := B7.out.size
  go_wp2_with fail
  go_loopw [10, 48] (fun v u wr => ∃ (k : Nat), k ≤ len2 ∧ u = .int .i64 k ∧ OpRow wr v (repA (some (m : Int)) (opsOf f len ++ opsOf f2 k)) ∧ wr.heap[b]? = some (.cells (wordsOf (repW (some (m : Int)) (opsOf f len ++ opsOf f2 k))) 29 (0, 0)) ∧ (∀ q, v.ownBlock = some q → w7.heap.size ≤ q ∧ q ≠ b) ∧ Below w7.heap.size w7 wr) (fun _ u _ => len2 - (intOf u).toNat)
  case atStart => exact ⟨0, Nat.zero_le _, rfl, by rw [opsOf_zero, List.append_nil]; exact RB.out, by rw [opsOf_zero, List.append_nil]; exact RW.out, QB.out, G8.out⟩
  case round =>
    obtain ⟨k, hk, rfl, hA, hB, hq, hb⟩ := hrel
    have AR := Lib.hid hA
    have BR := Lib.hid hB
    have QR := Lib.hid hq
    have XR := Lib.hid hb
    have YR := Lib.hid (below_two B7.out hb)
    clear hA hB hq hb RB RW QB G8
    by_cases hl3 : k < len2
    · have l3 : (k : Int) < (len2 : Int) := by omega
      obtain ⟨bb, off, rfl, q0, q1⟩ := (h2.out.next YR.out).at hl3
      have OS := Lib.hid (opsOf_succ f2 k)
      have hOk : Okay (opsOf f len ++ opsOf f2 k) := fun x hx => by
        rcases List.mem_append.1 hx with q | q
        · exact OK.out x q
        · simp [opsOf] at q
          obtain ⟨j, _, rfl⟩ := q
          exact h2.out.1 j
      have LT := Lib.hid (repW_lt (some (m : Int)) _ hOk)
      have RL2 := Lib.hid (RLN.out (opsOf f len ++ opsOf f2 k))
      have RS := Lib.hid (repW_snoc (some (m : Int)) (opsOf f len ++ opsOf f2 k) (f2 k))
      have RT := Lib.hid (repA_snoc (some (m : Int)) (opsOf f len ++ opsOf f2 k) (f2 k))
      have RN : Hid ((repA (some (m : Int)) (opsOf f len ++ opsOf f2 k)).length = len + k) := by show _ = _; rw [repA_len, List.length_append, opsOf_len, opsOf_len]
      rw [List.append_assoc, ← OS.out] at RS RT
      clear hOk OS
      rcases hz : f2 k with ⟨A, B⟩
      rw [hz] at q0 q1 RS RT
      clear hz
      generalize repW (some (m : Int)) (opsOf f len ++ opsOf f2 k) = L at *
      generalize repA (some (m : Int)) (opsOf f len ++ opsOf f2 k) = aa at *
      obtain ⟨n1, n2, n3⟩ := one_new wr (.cells #[.int .u64 (A : Int), .int .u64 (B : Int)] 40)
      have BB2 : Hid (_ = _) := (n2.block _ (heap_lt BR.out)).trans BR.out
      have A2 := Lib.hid (ORow.next AR.out n2)
      have XR2 := Lib.hid (below_two XR.out n2)
      have s2 : (wr.alloc (.cells #[.int .u64 (A : Int), .int .u64 (B : Int)] 40)).cell? ⟨sb, 0, none⟩ = some (.int .i64 (m : Int)) := (XR2.out.cell (p := ⟨sb, 0, none⟩) (heap_lt N7.out)).trans s7
      clear n1 n2 n3
      go_wp2_with fail
      generalize wr.alloc (.cells #[.int .u64 (A : Int), .int .u64 (B : Int)] 40) = w9 at *
      refine (AP.out A B L w9 BB2 (by rw [RL2.out]; exact Nat.le_refl _) LT).mono ?_
      rintro e w10 ⟨rfl, h6, o6⟩
      have A6 := Lib.hid (ORow.stay A2.out o6 (fun q hq => by have := QR.out q hq; simp; omega))
      have B6 := Lib.hid h6
      have XR6 := Lib.hid (XR2.out.trans (o6.below (B := w7.heap.size) (by simp; omega) XR2.out.size))
      clear h6 o6 A2 BB2 XR2 AR BR
      generalize hY : (obApp (some (m : Int)) L (A, B)).2 = Y at *
      obtain ⟨y1, y2⟩ := Y
      obtain ⟨n1, n2, n3⟩ := one_new w10 (.cells #[.int .u64 (y1 : Int), .int .u64 (y2 : Int)] 40)
      have lb6 := heap_lt B6.out
      have A7 := ORow.next A6.out n2
      have B7' : Hid (_ = _) := (n2.block _ lb6).trans B6.out
      have XR7 := Lib.hid (below_two XR6.out n2)
      have hs6 := XR6.out.size
      obtain ⟨v', w11, hrun, p1, p2, p3, bq, cq, rfl⟩ := OpRow.app (x := (y1, y2)) A7 n1 (by rw [RN.out]; omega) 22
      generalize hN6 : w10.heap.size = N6 at *
      have A8 := Lib.hid p1
      have B8 : Hid (w11.heap[b]? = _) := (p2.block _ (by omega) (fun e => (QR.out b e.symm).2 rfl)).trans B7'.out
      have XR8 := Lib.hid (app_below' XR7.out (by have := XR7.out.size; omega) p2 (fun k hk => (QR.out k hk).1))
      have QR8 : Hid (bq ≠ b ∧ w7.heap.size ≤ bq) := by
        rcases p3 with e | e
        · exact ⟨(QR.out bq e.symm).2, (QR.out bq e.symm).1⟩
        · have e' : bq = N6 + 1 := by simpa [Value.ownBlock, hN6] using e
          exact ⟨by omega, by omega⟩
      clear p1 p2 p3 A6 B6 XR6 A7 B7' XR7
      go_wp2_with (at_builtin; refine wpList_append_by rfl _ _ 22 22 rfl u10 (.slice (some ⟨N6, 0, none⟩) 1 1) (by rfl) (by rfl) hrun ?_)
      go_wp2_with fail
      go_roundw
      case rel => exact ⟨k + 1, by omega, by go_num, by rw [RT.out]; exact A8.out, by rw [RS.out]; exact B8.out, (fun q hq => by
        have e : bq = q := by simpa [Value.ownBlock] using hq
        rw [← e]; exact ⟨QR8.out.2, QR8.out.1⟩), XR8.out⟩
      case measure => simp [intOf]; omega
    · obtain rfl : k = len2 := by omega
      have LT := Lib.hid (repW_lt (some (m : Int)) _ OK12.out)
      have LR := Lib.hid (repA_lt (some (m : Int)) _ OK12.out)
      have RN : Hid ((repA (some (m : Int)) (opsOf f len ++ opsOf f2 k)).length = len + k) := by show _ = _; rw [repA_len, LN12.out]
      have RL2 := Lib.hid (RLN.out (opsOf f len ++ opsOf f2 k))
      have RE8 : Hid (wr.heap[be]? = _) := (XR.out.block _ (heap_lt RE.out)).trans RE.out
      obtain ⟨a8, c8, e8, R8⟩ := OpRow.row (ORow.next RA.out XR.out) LR.out
      obtain ⟨a9, c9, e9, R9⟩ := OpRow.row AR.out LR.out
      rw [RN.out] at e8 R8 e9 R9
      subst e8
      subst e9
      generalize repW (some (m : Int)) (opsOf f len ++ opsOf f2 k) = L at *
      go_wp2_with fail
      refine (same_any a8 a9 (len + k) c8 c9 _ _ _ R8 R9 (Lib.hid fun j _ => rfl) (by omega)).mono ?_
      rintro e w12 ⟨rfl, hb⟩
      have Y12 := Lib.hid (below_two YR.out hb)
      have E12 : Hid (w12.heap[be]? = _) := (hb.block _ (heap_lt RE8.out)).trans RE8.out
      have F12 : Hid (w12.heap[b]? = _) := (hb.block _ (heap_lt BR.out)).trans BR.out
      clear hb
      go_wp2_with fail
      go_loopw [73] (fun u wq => ∃ (i : Nat), i ≤ m + 1 ∧ u = .int .i64 i ∧ Below w12.heap.size w12 wq) (fun u _ => m + 1 - (intOf u).toNat)
      case atStart => exact ⟨0, Nat.zero_le _, rfl, Below.refl _ _⟩
      case round =>
        obtain ⟨i, hi, rfl, hb⟩ := hrel
        have XQ := Lib.hid hb
        clear hb
        by_cases hl4 : i < m + 1
        · have l4 : (i : Int) < ((m + 1 : Nat) : Int) := by omega
          have l4' : (i : Int) < (m : Int) + 1 := by omega
          have x0 := words_at ((XQ.out.block _ (heap_lt E12.out)).trans E12.out) (show i < L.length by rw [RL2.out]; exact hl4)
          have y0 := words_at ((XQ.out.block _ (heap_lt F12.out)).trans F12.out) (show i < L.length by rw [RL2.out]; exact hl4)
          generalize L.getD i 0 = z at *
          go_wp2_with fail
          have k0 := cell_regrown x0
          have k1 := cell_regrown y0
          refine wp_region_quiet_below (by kernel_rfl) (by kernel_rfl) ?_
          repeat (go_big_quiet_step (fail))
          refine wpQuiet_nil ?_
          intro _ hwq
          obtain ⟨⟨dq, osq⟩, hwq2⟩ := hwq
          subst hwq2
          have HQ := Lib.hid (below_regrown wr dq osq)
          have XQ5 := Lib.hid (below_two XQ.out HQ.out)
          generalize Sort.grow (redrawn wr dq) osq = w13 at *
          clear HQ k0 k1
          clear x0 y0
          go_wp2_with fail
          go_roundw
          case rel => exact ⟨i + 1, by omega, by go_num, XQ5.out⟩
          case measure => simp [intOf]; omega
        · obtain rfl : i = m + 1 := by omega
          go_wp2_with fail
          go_ret
          exact ⟨rfl, below_two Y12.out XQ.out⟩
end Go.Proofs.Ytmdjhjfmnkileaa
