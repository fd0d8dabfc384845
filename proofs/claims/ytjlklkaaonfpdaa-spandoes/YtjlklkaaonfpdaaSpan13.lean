/-
  Contracts of the document's own answers of layer 6: Find, Any.
-/
import Derived.Test.YtjlklkaaonfpdaaWSpanBack
namespace Go.Proofs.Ytjlklkaaonfpdaa
open Go.RowKit Go.Sort

/-- Where the one that begins at an address stands; -1: there is none. -/
def findI (m : List Iv) (a : Int) : Int := match m.findIdx? (fun y => y.1 == a) with | some k => (k : Int) | none => -1
theorem find_case (m : List Iv) (a : Int) : (findI m a = -1 ∧ ∀ (j : Nat) (x : Iv), m[j]? = some x → x.1 ≠ a) ∨ ∃ (k : Nat) (x : Iv), findI m a = k ∧ m[k]? = some x ∧ x.1 = a ∧ ∀ (j : Nat) (y : Iv), j < k → m[j]? = some y → y.1 ≠ a := by
  rcases h : m.findIdx? (fun y => y.1 == a) with _ | k
  · left
    refine ⟨by unfold findI; rw [h], fun j x hx => ?_⟩
    have := List.findIdx?_eq_none_iff.1 h x (List.mem_of_getElem? hx)
    simpa using this
  · right
    obtain ⟨hk, h1, h2⟩ := List.findIdx?_eq_some_iff_getElem.1 h
    refine ⟨k, m[k], by unfold findI; rw [h], List.getElem?_eq_getElem hk, by simpa using h1, fun j y hj hy => ?_⟩
    have := h2 j hj
    obtain ⟨hj2, rfl⟩ := List.getElem?_eq_some_iff.1 hy
    simpa using this

set_option maxHeartbeats 1000000 in
theorem rfind_any (u : Value) (m : List Iv) (a : Int) (w : World) (hr : Hid (IvRow w u m)) (few : m.length ≤ 100000) :
    Calls Try.prog 35 #[u, .int .i64 a] w fun e w' => e = .returned (.int .i64 (findI m a)) ∧ w = w' := by
  rcases hr.out.cases with ⟨rfl, rfl⟩ | ⟨b, cap, cur, rfl, hB⟩
  · have HF : Hid (findI [] a = -1) := rfl
    go_enter Try.func35, Try.ntmps35
    go_wp2_with fail
    go_loop [5] (fun u => u = .int .i64 0) (fun _ => 0)
    case atStart => rfl
    case round =>
      subst hrel
      go_wp2_with fail
      go_ret
      exact ⟨by rw [HF.out]; first | done | rfl, rfl⟩
  · have HB := Lib.hid hB
    clear hB
    rcases find_case m a with ⟨h1, h2⟩ | ⟨k, x, h1, h2, h3, h4⟩
    · have H2 := Lib.hid h2
      have HF := Lib.hid h1
      clear h1 h2
      go_enter Try.func35, Try.ntmps35
      go_wp2_with fail
      go_loop [5] (fun u => ∃ j : Nat, j ≤ m.length ∧ u = .int .i64 j) (fun u => m.length - (intOf u).toNat)
      case atStart => exact ⟨0, Nat.zero_le _, rfl⟩
      case round =>
        obtain ⟨j, hj, rfl⟩ := hrel
        by_cases h : j < m.length
        · have l2 : (j : Int) < (m.length : Int) := by omega
          obtain ⟨y, hy⟩ : ∃ y, m[j]? = some y := ⟨m[j], List.getElem?_eq_getElem h⟩
          have c0 := (HB.out.two hy).1
          have hne := H2.out j y hy
          have dn : (y.1 == a) = false := by simpa using hne
          clear hy hne
          go_wp2_with fail
          go_round
          case rel => exact ⟨j + 1, by omega, rfl⟩
          case measure => simp [intOf]; omega
        · obtain rfl : j = m.length := by omega
          go_wp2_with fail
          go_ret
          exact ⟨by rw [HF.out]; first | done | rfl, rfl⟩
    · have hk : k < m.length := (List.getElem?_eq_some_iff.1 h2).1
      have H2 := Lib.hid h2
      have H3 := Lib.hid h3
      have H4 := Lib.hid h4
      have HF := Lib.hid h1
      clear h1 h2 h3 h4
      go_enter Try.func35, Try.ntmps35
      go_wp2_with fail
      go_loop [5] (fun u => ∃ j : Nat, j ≤ k ∧ u = .int .i64 j) (fun u => m.length - (intOf u).toNat)
      case atStart => exact ⟨0, Nat.zero_le _, rfl⟩
      case round =>
        obtain ⟨j, hj, rfl⟩ := hrel
        have h : j < m.length := by omega
        have l2 : (j : Int) < (m.length : Int) := by omega
        by_cases e : j = k
        · subst e
          have c0 := (HB.out.two H2.out).1
          rw [H3.out] at c0
          go_wp2_with fail
          go_ret
          exact ⟨by rw [HF.out]; first | done | rfl, rfl⟩
        · obtain ⟨y, hy⟩ : ∃ y, m[j]? = some y := ⟨m[j], List.getElem?_eq_getElem h⟩
          have c0 := (HB.out.two hy).1
          have hne := H4.out j y (by omega) hy
          have dn : (y.1 == a) = false := by simpa using hne
          clear hy hne
          go_wp2_with fail
          go_round
          case rel => exact ⟨j + 1, by omega, rfl⟩
          case measure => simp [intOf]; omega

def anyB (m : List Iv) (x : Iv) : Bool := m.any fun y => ovB y x
theorem any_case (m : List Iv) (x : Iv) : (anyB m x = false ∧ ∀ (j : Nat) (y : Iv), m[j]? = some y → ovB y x = false) ∨ ∃ (k : Nat) (z : Iv), anyB m x = true ∧ m[k]? = some z ∧ ovB z x = true ∧ ∀ (j : Nat) (y : Iv), j < k → m[j]? = some y → ovB y x = false := by
  rcases h : m.findIdx? (fun y => ovB y x) with _ | k
  · left
    have h1 := List.findIdx?_eq_none_iff.1 h
    refine ⟨?_, fun j y hy => h1 y (List.mem_of_getElem? hy)⟩
    unfold anyB
    rw [List.any_eq_false]
    intro y hy
    simp [h1 y hy]
  · right
    obtain ⟨hk, h1, h2⟩ := List.findIdx?_eq_some_iff_getElem.1 h
    refine ⟨k, m[k], ?_, List.getElem?_eq_getElem hk, h1, fun j y hj hy => ?_⟩
    · unfold anyB
      rw [List.any_eq_true]
      exact ⟨m[k], List.getElem_mem hk, h1⟩
    · have := h2 j hj
      obtain ⟨hj2, rfl⟩ := List.getElem?_eq_some_iff.1 hy
      simpa using this

set_option maxHeartbeats 2000000 in
theorem rany_any (u : Value) (m : List Iv) (x y : Int) (w : World) (hr : Hid (IvRow w u m)) (few : m.length ≤ 100000) (hok : Hid (∀ z ∈ m, 0 ≤ z.1 ∧ z.1 ≤ 1099511627776)) (x1 : -1099511627776 ≤ x) (x2 : x ≤ 1099511627776) :
    Calls Try.prog 42 #[u, .agg #[.int .i64 x, .int .i64 y]] w fun e w' => e = .returned (.bool (anyB m (x, y))) ∧ Below w.heap.size w w' := by
  have b0 := below_alloc w (.cells #[.int .i64 x, .int .i64 y] 56)
  have B0 := Lib.hid b0
  have D0 := Lib.hid (Duo6.new w x y)
  have R0 := Lib.hid (hr.out.below b0)
  clear b0
  rcases R0.out.cases with ⟨rfl, rfl⟩ | ⟨b, cap, cur, rfl, hB⟩
  · have HF : Hid (anyB [] (x, y) = false) := rfl
    go_enter Try.func42, Try.ntmps42
    go_wp2_with fail
    generalize w.alloc (.cells #[.int .i64 x, .int .i64 y] 56) = w1 at *
    go_loop [5] (fun u => u = .int .i64 0) (fun _ => 0)
    case atStart => rfl
    case round =>
      subst hrel
      go_wp2_with fail
      go_ret
      exact ⟨by rw [HF.out]; first | done | rfl, B0.out⟩
  · have HB := Lib.hid hB
    clear hB
    rcases any_case m (x, y) with ⟨h1, h2⟩ | ⟨k, z, h1, h2, h3, h4⟩
    · have H2 := Lib.hid h2
      have HF := Lib.hid h1
      clear h1 h2
      go_enter Try.func42, Try.ntmps42
      go_wp2_with fail
      generalize w.alloc (.cells #[.int .i64 x, .int .i64 y] 56) = w1 at *
      generalize hN : w.heap.size = N at *
      go_loopw [5] (fun u wx => ∃ j : Nat, j ≤ m.length ∧ u = .int .i64 j ∧ Below w1.heap.size w1 wx) (fun u _ => m.length - (intOf u).toNat)
      case atStart => exact ⟨0, Nat.zero_le _, rfl, Below.refl _ _⟩
      case round =>
        obtain ⟨j, hj, rfl, hb⟩ := hrel
        have BX := Lib.hid hb
        clear hb
        by_cases h : j < m.length
        · have l2 : (j : Int) < (m.length : Int) := by omega
          obtain ⟨z, hz⟩ : ∃ z, m[j]? = some z := ⟨m[j], List.getElem?_eq_getElem h⟩
          obtain ⟨c0, c1⟩ := (HB.out.next (BX.out.block b HB.out.lt)).two hz
          obtain ⟨d0, d1⟩ := (D0.out.next BX.out).cells
          have hov := H2.out j z hz
          have ok := hok.out z (List.mem_of_getElem? hz)
          obtain ⟨z1, z2⟩ := z
          simp only at c0 c1 ok
          have HC : Hid (∀ d os, Calls Try.prog 45 #[.agg #[.int .i64 z1, .int .i64 z2], .agg #[.int .i64 x, .int .i64 y]] (grow (redrawn wr d) os) fun e w'' => e = .returned (.bool false) ∧ ∃ p : Regrown, w'' = grow (redrawn wr p.d) p.os) := fun d os => by
            have h := Calls.regrown_of (w := wr) (d := d) (os := os) (rover_any z1 z2 x y (grow (redrawn wr d) os) (by omega) (by omega) (by omega) (by omega))
            rw [hov] at h; exact h
          have a1 := HC.out
          have k0 := cell_regrown c0
          have k1 := cell_regrown c1
          have k2 := cell_regrown d0
          have k3 := cell_regrown d1
          clear hz hov c0 c1 d0 d1
          go_wp2_with fail
          refine wp_region_quiet_below (by kernel_rfl) (by kernel_rfl) ?_
          repeat (go_big_quiet_step (first | exact a1 _ _))
          refine wpQuiet_nil ?_
          intro _ hw'
          obtain ⟨⟨dq, osq⟩, hw''⟩ := hw'
          subst hw''
          have B2 := Lib.hid (below_after BX.out (below_regrown wr dq osq))
          generalize Sort.grow (redrawn wr dq) osq = w2 at *
          go_wp2_with fail
          go_roundw
          case rel => exact ⟨j + 1, by omega, rfl, B2.out⟩
          case measure => simp [intOf]; omega
        · obtain rfl : j = m.length := by omega
          have HE := Lib.hid (B0.out.trans (BX.out.mono (by rw [← hN]; exact B0.out.size)))
          go_wp2_with fail
          go_ret
          exact ⟨by rw [HF.out]; first | done | rfl, by first | exact HE.out | (rw [hN]; exact HE.out)⟩
    · have hk : k < m.length := (List.getElem?_eq_some_iff.1 h2).1
      have H2 := Lib.hid h2
      have H3 := Lib.hid h3
      have H4 := Lib.hid h4
      have HF := Lib.hid h1
      clear h1 h2 h3 h4
      go_enter Try.func42, Try.ntmps42
      go_wp2_with fail
      generalize w.alloc (.cells #[.int .i64 x, .int .i64 y] 56) = w1 at *
      generalize hN : w.heap.size = N at *
      go_loopw [5] (fun u wx => ∃ j : Nat, j ≤ k ∧ u = .int .i64 j ∧ Below w1.heap.size w1 wx) (fun u _ => m.length - (intOf u).toNat)
      case atStart => exact ⟨0, Nat.zero_le _, rfl, Below.refl _ _⟩
      case round =>
        obtain ⟨j, hj, rfl, hb⟩ := hrel
        have BX := Lib.hid hb
        clear hb
        have h : j < m.length := by omega
        have l2 : (j : Int) < (m.length : Int) := by omega
        obtain ⟨q, hq⟩ : ∃ q, m[j]? = some q := ⟨m[j], List.getElem?_eq_getElem h⟩
        obtain ⟨c0, c1⟩ := (HB.out.next (BX.out.block b HB.out.lt)).two hq
        obtain ⟨d0, d1⟩ := (D0.out.next BX.out).cells
        have ok := hok.out q (List.mem_of_getElem? hq)
        have hov : Hid (ovB q (x, y) = decide (j = k)) := by
          show _ = _
          by_cases e : j = k
          · subst e; rw [H2.out] at hq; cases hq; rw [H3.out]; simp
          · rw [H4.out j q (by omega) hq]; simp [e]
        obtain ⟨q1, q2⟩ := q
        simp only at c0 c1 ok
        have HC : Hid (∀ d os, Calls Try.prog 45 #[.agg #[.int .i64 q1, .int .i64 q2], .agg #[.int .i64 x, .int .i64 y]] (grow (redrawn wr d) os) fun e w'' => e = .returned (.bool (decide (j = k))) ∧ ∃ p : Regrown, w'' = grow (redrawn wr p.d) p.os) := fun d os => by
          have h := Calls.regrown_of (w := wr) (d := d) (os := os) (rover_any q1 q2 x y (grow (redrawn wr d) os) (by omega) (by omega) (by omega) (by omega))
          rw [hov.out] at h; exact h
        have k0 := cell_regrown c0
        have k1 := cell_regrown c1
        have k2 := cell_regrown d0
        have k3 := cell_regrown d1
        clear hq hov c0 c1 d0 d1
        by_cases e : j = k
        · have a1 := HC.out
          rw [decide_eq_true e] at a1
          clear e
          go_wp2_with fail
          refine wp_region_quiet_below (by kernel_rfl) (by kernel_rfl) ?_
          repeat (go_big_quiet_step (first | exact a1 _ _))
          refine wpQuiet_nil ?_
          intro _ hw'
          obtain ⟨⟨dq, osq⟩, hw''⟩ := hw'
          subst hw''
          have HE := Lib.hid (B0.out.trans ((below_after BX.out (below_regrown wr dq osq)).mono (by rw [← hN]; exact B0.out.size)))
          generalize Sort.grow (redrawn wr dq) osq = w2 at *
          go_wp2_with fail
          go_ret
          exact ⟨by rw [HF.out]; first | done | rfl, by first | exact HE.out | (rw [hN]; exact HE.out)⟩
        · have a1 := HC.out
          rw [decide_eq_false e] at a1
          go_wp2_with fail
          refine wp_region_quiet_below (by kernel_rfl) (by kernel_rfl) ?_
          repeat (go_big_quiet_step (first | exact a1 _ _))
          refine wpQuiet_nil ?_
          intro _ hw'
          obtain ⟨⟨dq, osq⟩, hw''⟩ := hw'
          subst hw''
          have B2 := Lib.hid (below_after BX.out (below_regrown wr dq osq))
          generalize Sort.grow (redrawn wr dq) osq = w2 at *
          go_wp2_with fail
          go_roundw
          case rel => exact ⟨j + 1, by omega, rfl, B2.out⟩
          case measure => simp [intOf]; omega

end Go.Proofs.Ytjlklkaaonfpdaa
