/-
  Contract of the document's own Drop of layer 6, and what the document's list and the map's have in common.
-/
import Derived.Test.YtjlklkaaonfpdaaSpan14
namespace Go.Proofs.Ytjlklkaaonfpdaa
open Go.RowKit Go.Sort

def keepL (m : List Iv) (a : Int) : List Iv := m.filter fun y => y.1 != a
theorem keep_step {m : List Iv} {j : Nat} {x : Iv} {a : Int} (h : m[j]? = some x) : keepL (m.take (j + 1)) a = keepL (m.take j) a ++ if x.1 != a then [x] else [] := by
  unfold keepL
  rw [List.take_add_one, h, List.filter_append]
  congr 1
  simp [List.filter_cons]

set_option maxHeartbeats 2000000 in
theorem rdrop_any (u : Value) (m : List Iv) (a : Int) (w : World) (hr : Hid (IvRow w u m)) (few : m.length ≤ 100000) :
    Calls Try.prog 39 #[u, .int .i64 a] w fun e w' => ∃ u', e = .returned u' ∧ IvRow w' u' (keepL m a) ∧ (∀ k, u'.ownBlock = some k → w.heap.size ≤ k) ∧ Below w.heap.size w w' := by
  obtain ⟨inf, hq, hsz, hz, hby⟩ := infoI
  have b1 := below_alloc w (.cells #[] 56)
  have B1 := Lib.hid b1
  have O1 : Hid ((w.alloc (.cells #[] 56)).ownsRow w.heap.size 56 2 (.slice (some ⟨w.heap.size, 0, none⟩) 0 0) (keepL (m.take 0) a).length (ivs (keepL (m.take 0) a))) := World.ownsRow_made (base := w.heap.size) (e := 56) (size := 2) w #[] 0 (Nat.le_refl _) (Nat.zero_le _) rfl
  have R1 : Hid (∀ w', Below w.heap.size w w' → IvRow w' u m) := fun w' hb => hr.out.below hb
  clear b1
  obtain ⟨p0, c0, hu, _, _⟩ := row_len hr.out
  subst hu
  go_enter Try.func39, Try.ntmps39
  go_wp2_with fail
  generalize w.alloc (.cells #[] 56) = w1 at *
  go_loopw [5, 6] (fun v t wx => ∃ j : Nat, j ≤ m.length ∧ t = .int .i64 j ∧ wx.ownsRow w.heap.size 56 2 v (keepL (m.take j) a).length (ivs (keepL (m.take j) a)) ∧ Below w.heap.size w wx) (fun _ t _ => m.length - (intOf t).toNat)
  case atStart => exact ⟨0, Nat.zero_le _, rfl, O1.out, B1.out⟩
  case round =>
    obtain ⟨j, hj, rfl, ho, hb⟩ := hrel
    have O2 := Lib.hid ho
    have B2 := Lib.hid hb
    clear ho hb O1 B1
    by_cases h : j < m.length
    · have l2 : (j : Int) < (m.length : Int) := by omega
      obtain ⟨x, hx⟩ : ∃ x, m[j]? = some x := ⟨m[j], List.getElem?_eq_getElem h⟩
      obtain ⟨b, c, hv, e0, e1⟩ := row_two (R1.out _ B2.out) hx
      obtain ⟨rfl, rfl⟩ : p0 = some ⟨b, 0, none⟩ ∧ c0 = c := by simp at hv; exact hv
      clear hv
      have HK := Lib.hid (keep_step (a := a) hx)
      have hkl : (keepL (m.take j) a).length ≤ j := Nat.le_trans (List.length_filter_le _ _) (by rw [List.length_take]; omega)
      obtain ⟨x1, x2⟩ := x
      simp only at e0 e1
      clear hx
      by_cases hxa : x1 = a
      · have dx : (x1 != a) = false := by simpa using hxa
        have O3 : Hid (wr.ownsRow w.heap.size 56 2 u5 (keepL (m.take (j + 1)) a).length (ivs (keepL (m.take (j + 1)) a))) := by
          show World.ownsRow _ _ _ _ _ _ _
          rw [HK.out]; simp only [dx]; simpa using O2.out
        go_wp2_with fail
        go_roundw
        case rel => exact ⟨j + 1, by omega, rfl, O3.out, B2.out⟩
        case measure => simp [intOf]; omega
      · have dx : (x1 != a) = true := by simpa using hxa
        have b3 := below_alloc wr (.cells #[.int .i64 x1, .int .i64 x2] 56)
        have O3 := Lib.hid (O2.out.alloc (.cells #[.int .i64 x1, .int .i64 x2] 56))
        have HN3 := Lib.hid (news_one (x := (x1, x2)) (heap_at wr (.cells #[.int .i64 x1, .int .i64 x2] 56)))
        have B3 := Lib.hid (B2.out.trans (b3.mono B2.out.size))
        have H63 : Hid ((keepL (m.take j) a).length + 1 ≤ maxLen) := by show _ ≤ maxLen; unfold maxLen; omega
        have HBY : Hid (((keepL (m.take j) a).length + 1) * 16 ≤ 140737488355328) := by show _ ≤ _; omega
        have HS : Hid (w.heap.size ≤ (wr.alloc (.cells #[.int .i64 x1, .int .i64 x2] 56)).heap.size) := Nat.le_trans B2.out.size b3.size
        have HE : Hid (keepL (m.take (j + 1)) a = keepL (m.take j) a ++ [(x1, x2)]) := by show _ = _; rw [HK.out]; simp only [dx]; rfl
        clear b3
        generalize hkk : keepL (m.take j) a = q at *
        clear hkk
        go_wp2_with (at_builtin; refine wpList_append_lies _ rfl _ _ 52 rfl w.heap.size 56 inf _ 2 16 Try.underlying52 hq hz hsz hby rfl (by omega) u5 q.length (ivs q) rfl O3.out ⟨wr.heap.size, 0, none⟩ 1 1 (ivs [(x1, x2)]) rfl rfl HN3.out (ivs_one _) (by omega) H63.out HBY.out HS.out _ rfl ?_; intro g cap' w5 hown hgrow hat hlt)
        have O5 : Hid (w5.ownsRow w.heap.size 56 2 (.slice (some ⟨g, 0, none⟩) (q.length + 1) cap') (keepL (m.take (j + 1)) a).length (ivs (keepL (m.take (j + 1)) a))) := by
          show World.ownsRow _ _ _ _ _ _ _
          rw [HE.out, ivs_app, List.length_append]; exact hown
        have B5 := Lib.hid (below_of_grown B3.out hgrow HS.out (fun k hk => (O3.out.lt k hk).1))
        clear hown hgrow hat hlt
        go_roundw
        case rel => exact ⟨j + 1, by omega, rfl, O5.out, B5.out⟩
        case measure => simp [intOf]; omega
    · obtain rfl : j = m.length := by omega
      rw [List.take_length] at O2
      go_wp2_with fail
      go_ret
      exact ⟨_, rfl, (row_of_base O2.out).1, (row_of_base O2.out).2, B2.out⟩

/-! ### The document's list is the map's, in another order -/
theorem perm_any {m l : List Iv} (p : m.Perm l) (g : Good l) (x : Iv) : anyB m x = overB l x := by
  rw [Bool.eq_iff_iff]
  simp only [anyB, overB, List.any_eq_true, Bool.and_eq_true, decide_eq_true_eq]
  constructor
  · rintro ⟨y, hy, ho⟩
    have ok := g.ok y (p.mem_iff.1 hy)
    simp [ovB] at ho
    exact ⟨by omega, y, p.mem_iff.1 hy, by simp [shB]; omega⟩
  · rintro ⟨h1, y, hy, hs⟩
    have ok := g.ok y hy
    simp [shB] at hs
    exact ⟨y, p.mem_iff.2 hy, by simp [ovB]; omega⟩
theorem perm_put {m l : List Iv} (p : m.Perm l) (g : Good l) (x : Iv) : rputB m x = putB l x := by unfold rputB putB; rw [perm_any p g]
theorem perm_ins2 {m l : List Iv} (p : m.Perm l) (x : Iv) : (m ++ [x]).Perm (insL x l) := (List.perm_append_comm.trans (p.cons x)).trans (perm_ins x l).symm
theorem perm_drop {m l : List Iv} (p : m.Perm l) (a : Int) : (keepL m a).Perm (dropL l a) := p.filter _
theorem perm_ok {m l : List Iv} (p : m.Perm l) (g : Good l) : ∀ z ∈ m, 0 ≤ z.1 ∧ z.1 ≤ 1099511627776 := fun z hz => by have := g.ok z (p.mem_iff.1 hz); omega
/-- What is found is what the map answers. -/
theorem perm_find {m l : List Iv} (p : m.Perm l) (g : Good l) (a : Int) : (findI m a = -1 ∧ getO l a = none) ∨ ∃ (k : Nat) (x : Iv), findI m a = k ∧ m[k]? = some x ∧ getO l a = some x ∧ x.1 = a := by
  rcases find_case m a with ⟨h1, h2⟩ | ⟨k, x, h1, h2, h3, _⟩
  · left
    refine ⟨h1, ?_⟩
    rcases ho : getO l a with _ | x
    · rfl
    · exfalso
      obtain ⟨hm, he⟩ := get_some ho
      obtain ⟨i, hi⟩ := List.getElem?_of_mem (p.mem_iff.2 hm)
      exact h2 i x hi he
  · right
    have := get_mem g (p.mem_iff.1 (List.mem_of_getElem? h2))
    rw [h3] at this
    exact ⟨k, x, h1, h2, this, h3⟩

end Go.Proofs.Ytjlklkaaonfpdaa
