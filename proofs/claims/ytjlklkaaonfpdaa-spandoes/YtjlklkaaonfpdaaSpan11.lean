/-
  The state of a walk that has a map; the statements' own far and speaks; the document's Over.
-/
import Derived.Test.YtjlklkaaonfpdaaSpan10
import Derived.Lib.QuietBelow
namespace Go.Proofs.Ytjlklkaaonfpdaa
open Go.RowKit Go.Sort

/-- A map in g, made since w0, and blocks F that are not its. -/
structure Sm (w0 w : World) (g : Nat) (F : Nat → Prop) (l : List Iv) : Prop where
  ex : ∃ v, MapAt w g v l ∧ (∀ k, v.ownBlock = some k → w0.heap.size ≤ k) ∧ (∀ k, F k → k < w.heap.size ∧ k ≠ g ∧ v.ownBlock ≠ some k)
  gd : Good l
  hg : w0.heap.size ≤ g
  b : Below w0.heap.size w0 w
structure Kp (F : Nat → Prop) (w w' : World) : Prop where
  size : w.heap.size ≤ w'.heap.size
  block : ∀ k, F k → w'.heap[k]? = w.heap[k]?
theorem Sm.few {w0 w : World} {g : Nat} {F : Nat → Prop} {l : List Iv} (s : Sm w0 w g F l) : l.length ≤ 100000 := by obtain ⟨v, m, _⟩ := s.ex; exact m.few
theorem Sm.kp {w0 w w' : World} {g : Nat} {F : Nat → Prop} {l : List Iv} (s : Sm w0 w g F l) (hb : Below w.heap.size w w') : Kp F w w' := by
  obtain ⟨v, _, _, h⟩ := s.ex
  exact ⟨hb.size, fun k hk => hb.block k (h k hk).1⟩
theorem Sm.next {w0 w w' : World} {g : Nat} {F : Nat → Prop} {l : List Iv} (s : Sm w0 w g F l) (hb : Below w.heap.size w w') : Sm w0 w' g F l := by
  obtain ⟨v, m, h1, h2⟩ := s.ex
  exact ⟨⟨v, m.next hb, h1, fun k hk => ⟨Nat.lt_of_lt_of_le (h2 k hk).1 hb.size, (h2 k hk).2⟩⟩, s.gd, s.hg, s.b.trans (hb.mono s.b.size)⟩
theorem Sm.grown {w0 w : World} {g : Nat} {F : Nat → Prop} {l : List Iv} (s : Sm w0 w g F l) (d : Nat) (os : Array Obj) : Sm w0 (grow (redrawn w d) os) g F l := s.next (below_regrown w d os)
theorem Sm.start {w0 w : World} {F : Nat → Prop} (hb : Below w0.heap.size w0 w) (hF : ∀ k, F k → k < w.heap.size) : Sm w0 (w.alloc (.cells #[.slice none 0 0] 54)) w.heap.size F [] := by
  have b1 := below_alloc w (.cells #[.slice none 0 0] 54)
  exact ⟨⟨.slice none 0 0, ⟨heap_at _ _, ivRow_nil _, (fun h => by cases h), Nat.zero_le _⟩, (fun k h => by cases h), fun k hk => ⟨Nat.lt_of_lt_of_le (hF k hk) b1.size, by have := hF k hk; omega, fun h => by cases h⟩⟩, Good.nil, hb.size, hb.trans (b1.mono hb.size)⟩
/-- A new block is none of the map's. -/
theorem Sm.alloc {w0 w : World} {g : Nat} {F : Nat → Prop} {l : List Iv} (s : Sm w0 w g F l) (o : Obj) : Sm w0 (w.alloc o) g (fun k => F k ∨ k = w.heap.size) l := by
  have hb := below_alloc w o
  obtain ⟨v, m, h1, h2⟩ := s.ex
  refine ⟨⟨v, m.next hb, h1, fun k hk => ?_⟩, s.gd, s.hg, s.b.trans (hb.mono s.b.size)⟩
  rcases hk with hk | rfl
  · exact ⟨Nat.lt_of_lt_of_le (h2 k hk).1 hb.size, (h2 k hk).2⟩
  · refine ⟨by simp, ?_, ?_⟩
    · have := m.lt; omega
    · intro h; have := m.row.lt h; omega
theorem Sm.weak {w0 w : World} {g : Nat} {F G : Nat → Prop} {l : List Iv} (s : Sm w0 w g F l) (h : ∀ k, G k → F k) : Sm w0 w g G l := by
  obtain ⟨v, m, h1, h2⟩ := s.ex
  exact ⟨⟨v, m, h1, fun k hk => h2 k (h k hk)⟩, s.gd, s.hg, s.b⟩
/-- Blocks that were laid since, and the map's are not among them. -/
theorem Sm.more {w0 w w' : World} {g : Nat} {F G : Nat → Prop} {l : List Iv} (s : Sm w0 w g F l) (hb : Below w.heap.size w w') (hG : ∀ k, G k → F k ∨ (w.heap.size ≤ k ∧ k < w'.heap.size)) : Sm w0 w' g G l := by
  obtain ⟨v, m, h1, h2⟩ := s.ex
  refine ⟨⟨v, m.next hb, h1, fun k hk => ?_⟩, s.gd, s.hg, s.b.trans (hb.mono s.b.size)⟩
  rcases hG k hk with hk | ⟨hk1, hk2⟩
  · exact ⟨Nat.lt_of_lt_of_le (h2 k hk).1 hb.size, (h2 k hk).2⟩
  · refine ⟨hk2, ?_, ?_⟩
    · have := m.lt; omega
    · intro h; have := m.row.lt h; omega
theorem sm_step {w0 w w' : World} {g : Nat} {F : Nat → Prop} {l l' : List Iv} {v v' : Value} (s : Sm w0 w g F l) (h1 : ∀ k, v.ownBlock = some k → w0.heap.size ≤ k) (h2 : ∀ k, F k → k < w.heap.size ∧ k ≠ g ∧ v.ownBlock ≠ some k) (m' : MapAt w' g v' l') (he : MEl g v w w') (ho : OwnStep w.heap.size v v') (gd : Good l') :
    Sm w0 w' g F l' ∧ Kp F w w' := by
  refine ⟨⟨⟨v', m', fun k hk => ?_, fun k hk => ?_⟩, gd, s.hg, ?_⟩, he.size, fun k hk => he.block k (h2 k hk).1 (h2 k hk).2.1 (h2 k hk).2.2⟩
  · rcases ho with ho | ⟨j, hj, hn⟩
    · exact h1 k (by rw [← ho]; exact hk)
    · rw [hj] at hk; cases hk; have := s.b.size; omega
  · refine ⟨Nat.lt_of_lt_of_le (h2 k hk).1 he.size, (h2 k hk).2.1, ?_⟩
    rcases ho with ho | ⟨j, hj, hn⟩
    · rw [ho]; exact (h2 k hk).2.2
    · rw [hj]; have := (h2 k hk).1; simp; omega
  · refine ⟨he.os.trans s.b.os, he.tape.trans s.b.tape, he.output.trans s.b.output, Nat.le_trans s.b.size he.size, fun k hk => ?_⟩
    have := s.hg
    exact (he.block k (Nat.lt_of_lt_of_le hk s.b.size) (by omega) (fun h => by have := h1 k h; omega)).trans (s.b.block k hk)
theorem sm_put {w0 w : World} {g : Nat} {F : Nat → Prop} {l : List Iv} (s : Hid (Sm w0 w g F l)) (x y : Int) (few : l.length < 100000) :
    Calls Try.prog 36 #[.pointer (some ⟨g, 0, none⟩), .agg #[.int .i64 x, .int .i64 y]] w fun e w' => e = .returned (.bool (putB l (x, y))) ∧ Sm w0 w' g F (putL l (x, y)) ∧ Kp F w w' := by
  obtain ⟨v, m, h1, h2⟩ := s.out.ex
  refine (put_any g v l x y w m s.out.gd few).mono ?_
  rintro e w' ⟨rfl, v', h3, h4, h5⟩
  exact ⟨rfl, sm_step s.out h1 h2 h3 h4 h5 (good_put s.out.gd _)⟩
theorem sm_drop {w0 w : World} {g : Nat} {F : Nat → Prop} {l : List Iv} (s : Hid (Sm w0 w g F l)) (a : Int) :
    Calls Try.prog 38 #[.pointer (some ⟨g, 0, none⟩), .int .i64 a] w fun e w' => e = .returned (getV (getO l a)) ∧ Sm w0 w' g F (dropL l a) ∧ Kp F w w' := by
  obtain ⟨v, m, h1, h2⟩ := s.out.ex
  refine (drop_any g v l a w m s.out.gd).mono ?_
  rintro e w' ⟨rfl, v', h3, h4, h5⟩
  exact ⟨rfl, sm_step s.out h1 h2 h3 h4 h5 (good_drop s.out.gd a)⟩
theorem sm_get {w0 w : World} {g : Nat} {F : Nat → Prop} {l : List Iv} (s : Hid (Sm w0 w g F l)) (a : Int) :
    Calls Try.prog 40 #[.pointer (some ⟨g, 0, none⟩), .int .i64 a] w fun e w' => e = .returned (getV (getO l a)) ∧ Below w.heap.size w w' := by
  obtain ⟨v, m, h1, h2⟩ := s.out.ex
  exact get_any g v l a w m s.out.gd
theorem sm_over {w0 w : World} {g : Nat} {F : Nat → Prop} {l : List Iv} (s : Hid (Sm w0 w g F l)) (x y : Int) (hx : -1099511627776 ≤ x) (hx2 : x ≤ 1099511627776) :
    Calls Try.prog 41 #[.pointer (some ⟨g, 0, none⟩), .agg #[.int .i64 x, .int .i64 y]] w fun e w' => e = .returned (.bool (overB l (x, y))) ∧ Below w.heap.size w w' := by
  obtain ⟨v, m, h1, h2⟩ := s.out.ex
  exact over_any g v l x y w m s.out.gd hx hx2
theorem sm_bytes {w0 w : World} {g : Nat} {F : Nat → Prop} {l : List Iv} (s : Hid (Sm w0 w g F l)) :
    Calls Try.prog 44 #[.pointer (some ⟨g, 0, none⟩)] w fun e w' => e = .returned (.int .i64 (sumL l)) ∧ Below w.heap.size w w' := by
  obtain ⟨v, m, h1, h2⟩ := s.out.ex
  exact bytes_any g v l w m s.out.gd
theorem sm_all {w0 w : World} {g : Nat} {F : Nat → Prop} {l : List Iv} (s : Hid (Sm w0 w g F l)) :
    Calls Try.prog 43 #[.pointer (some ⟨g, 0, none⟩)] w fun e w' => ∃ v', e = .returned v' ∧ IvRow w' v' l ∧ Below w.heap.size w w' ∧ ∀ k, v'.ownBlock = some k → w.heap.size ≤ k := by
  obtain ⟨v, m, h1, h2⟩ := s.out.ex
  exact all6_any g v l w m
theorem row_len {w : World} {v : Value} {l : List Iv} (h : IvRow w v l) : ∃ a c, v = .slice a l.length c ∧ l.length ≤ c ∧ c ≤ maxLen := by
  rcases h.cases with ⟨rfl, rfl⟩ | ⟨b, cap, cur, rfl, hB⟩
  · exact ⟨_, _, rfl, Nat.le_refl _, Nat.zero_le _⟩
  · exact ⟨_, _, rfl, hB.len, hB.big⟩

def farB (x : Int) : Bool := decide (1099511627776 < x) || decide (x < -1099511627776)
theorem far_any (x y : Int) (w : World) :
    Calls Try.prog 34 #[.agg #[.int .i64 x, .int .i64 y]] w fun e w' => e = .returned (.bool (farB x)) ∧ Below w.heap.size w w' := by
  have HB := Lib.hid (below_alloc w (.cells #[.int .i64 x, .int .i64 y] 56))
  have HF : Hid (farB x = (decide (1099511627776 < x) || decide (x < -1099511627776))) := rfl
  by_cases h0 : 1099511627776 < x
  · have d0 : decide (1099511627776 < x) = true := by simpa using h0
    have HV : Hid (farB x = true) := by show _ = _; rw [HF.out, d0]; rfl
    go_enter Try.func34, Try.ntmps34
    go_wp2
    go_ret
    exact ⟨by rw [HV.out]; first | done | rfl, HB.out⟩
  · have d0 : decide (1099511627776 < x) = false := by simpa using h0
    have HV : Hid (farB x = decide (x < -1099511627776)) := by show _ = _; rw [HF.out, d0]; rfl
    go_enter Try.func34, Try.ntmps34
    go_wp2
    go_ret
    exact ⟨by rw [HV.out]; first | done | rfl, HB.out⟩
theorem far_no {x : Int} (h : farB x = false) : -1099511627776 ≤ x ∧ x ≤ 1099511627776 := by
  simp [farB] at h; omega

/-- Do two intervals share an address, by definition? -/
def ovB (a b : Iv) : Bool := decide (1 ≤ a.2) && decide (1 ≤ b.2) && ((decide (a.1 ≤ b.1) && decide (b.1 - a.1 < a.2)) || (decide (b.1 ≤ a.1) && decide (a.1 - b.1 < b.2)))
set_option maxHeartbeats 2000000 in
theorem rover_any (a1 a2 b1 b2 : Int) (w : World) (ha : -2199023255552 ≤ a1) (ha2 : a1 ≤ 2199023255552) (hb : -2199023255552 ≤ b1) (hb2 : b1 ≤ 2199023255552) :
    Calls Try.prog 45 #[.agg #[.int .i64 a1, .int .i64 a2], .agg #[.int .i64 b1, .int .i64 b2]] w fun e w' => e = .returned (.bool (ovB (a1, a2) (b1, b2))) ∧ Below w.heap.size w w' := by
  have HB := Lib.hid (below_after (below_alloc w (.cells #[.int .i64 a1, .int .i64 a2] 56)) (below_alloc (w.alloc (.cells #[.int .i64 a1, .int .i64 a2] 56)) (.cells #[.int .i64 b1, .int .i64 b2] 56)))
  by_cases h0 : 1 ≤ a2
  · have d0 : decide (1 ≤ a2) = true := by simpa using h0
    by_cases h1 : 1 ≤ b2
    · have d1 : decide (1 ≤ b2) = true := by simpa using h1
      by_cases h2 : a1 ≤ b1
      · have d2 : decide (a1 ≤ b1) = true := by simpa using h2
        by_cases h3 : b1 - a1 < a2
        · have d3 : decide (b1 - a1 < a2) = true := by simpa using h3
          have HV : Hid (ovB (a1, a2) (b1, b2) = true) := by show _ = _; unfold ovB; simp only [d0, d1, d2, d3]; rfl
          go_enter Try.func45, Try.ntmps45
          go_wp2
          go_ret
          exact ⟨by rw [HV.out]; first | done | rfl, HB.out⟩
        · have d3 : decide (b1 - a1 < a2) = false := by simpa using h3
          by_cases h4 : b1 ≤ a1
          · exfalso; omega
          · have d4 : decide (b1 ≤ a1) = false := by simpa using h4
            have HV : Hid (ovB (a1, a2) (b1, b2) = false) := by show _ = _; unfold ovB; simp only [d0, d1, d2, d3, d4]; rfl
            go_enter Try.func45, Try.ntmps45
            go_wp2
            go_ret
            exact ⟨by rw [HV.out]; first | done | rfl, HB.out⟩
      · have d2 : decide (a1 ≤ b1) = false := by simpa using h2
        by_cases h4 : b1 ≤ a1
        · have d4 : decide (b1 ≤ a1) = true := by simpa using h4
          by_cases h5 : a1 - b1 < b2
          · have d5 : decide (a1 - b1 < b2) = true := by simpa using h5
            have HV : Hid (ovB (a1, a2) (b1, b2) = true) := by show _ = _; unfold ovB; simp only [d0, d1, d2, d4, d5]; rfl
            go_enter Try.func45, Try.ntmps45
            go_wp2
            go_ret
            exact ⟨by rw [HV.out]; first | done | rfl, HB.out⟩
          · have d5 : decide (a1 - b1 < b2) = false := by simpa using h5
            have HV : Hid (ovB (a1, a2) (b1, b2) = false) := by show _ = _; unfold ovB; simp only [d0, d1, d2, d4, d5]; rfl
            go_enter Try.func45, Try.ntmps45
            go_wp2
            go_ret
            exact ⟨by rw [HV.out]; first | done | rfl, HB.out⟩
        · exfalso; omega
    · have d1 : decide (1 ≤ b2) = false := by simpa using h1
      have HV : Hid (ovB (a1, a2) (b1, b2) = false) := by show _ = _; unfold ovB; simp only [d0, d1]; rfl
      go_enter Try.func45, Try.ntmps45
      go_wp2
      go_ret
      exact ⟨by rw [HV.out]; first | done | rfl, HB.out⟩
  · have d0 : decide (1 ≤ a2) = false := by simpa using h0
    have HV : Hid (ovB (a1, a2) (b1, b2) = false) := by show _ = _; unfold ovB; simp only [d0]; rfl
    go_enter Try.func45, Try.ntmps45
    go_wp2
    go_ret
    exact ⟨by rw [HV.out]; first | done | rfl, HB.out⟩

end Go.Proofs.Ytjlklkaaonfpdaa
