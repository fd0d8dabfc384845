/-
  The document's superblocks with another one in place of one: a row of its own.
-/
import Derived.Test.YtkogeeaoppkhkaaDoorHeartS
import Derived.Maps.AppendAt
namespace Go.Proofs.YtkogeeaoppkhkaaDoor
open Go.RowKit Go.Sort Go.Shelf

theorem RS.empty (w : World) : RS (w.alloc (.cells #[] 99)) (.slice (some ⟨w.heap.size, 0, none⟩) 0 0) [] :=
  ⟨by simp, .inr ⟨w.heap.size, 0, #[], rfl, Nat.zero_le _, heap_new w _, Nat.le_refl _, by simp [maxLen], by simp, by simp⟩⟩
theorem RS.copy {w : World} {v : Value} {rb n c : Nat} {l : List Sb} (hv : RS w v []) (h : RS w (.slice (some ⟨rb, 0, none⟩) n c) l) (few : l.length ≤ 1000) (ty : TypeId) :
    ∃ v' w', (Builtin.append_ #[31, 31] ty #[v, .slice (some ⟨rb, 0, none⟩) n c]).run Tryd.prog w = .ok v' w' ∧ RS w' v' l ∧ w.grownBy w' v.ownBlock ∧ (v'.ownBlock = v.ownBlock ∨ v'.ownBlock = some w.heap.size) := by
  obtain ⟨i, hi, hz, hs, hb⟩ := info_parts' infoS
  rcases ORow.cases h with ⟨h1, _⟩ | ⟨b', cap, cur, h1, h2, h3, h4, h5, h6⟩
  · cases h1
  · cases h1
    have hnews : ∀ j u, (l.flatMap supE)[j]? = some u → w.cell? ((⟨rb, 0, none⟩ : Addr).add j) = some u := fun j u hu => by
      have hj : j < (l.flatMap supE).length := (List.getElem?_eq_some_iff.1 hu).1
      rw [flat_len supEnc] at hj
      rw [Addr.add_lit, Nat.zero_add, cell_of h2, ← Array.getElem?_toList, ← hu, ← h6, List.getElem?_take, if_pos hj]
    obtain ⟨v', w', r1, r2, r3, _, r5⟩ := run_append_own_at (P := Tryd.prog) w 0 31 ty 99 i _ 3 24 Tryd.underlying31 hi hz hs hb rfl (by omega) v 0 [] hv ⟨rb, 0, none⟩ l.length c (l.flatMap supE) (by rw [flat_len supEnc]) hnews (flat_one supEnc l) (by unfold maxLen; omega) (by omega) (Nat.zero_le _)
    refine ⟨v', w', r1, ?_, r3, r5⟩
    show ORow _ 3 supE _ _ _
    unfold ORow
    rw [Nat.zero_add, List.nil_append] at r2
    exact r2
theorem RS.put {w : World} {b n cap : Nat} {l : List Sb} (h : RS w (.slice (some ⟨b, 0, none⟩) n cap) l) {i : Nat} (hi : i < l.length) (s : Sb) :
    RS (((w.setCell ⟨b, i * 3, none⟩ (.int .i64 (s.k : Int))).setCell ⟨b, i * 3 + 1, none⟩ (.int .i64 (s.n : Int))).setCell ⟨b, i * 3 + 2, none⟩ (.int .u64 (s.m : Int))) (.slice (some ⟨b, 0, none⟩) n cap) (l.set i s) := by
  obtain ⟨k, n1, m⟩ := s
  have h0 := at_of hi
  generalize l.getD i Sb.none = x at h0
  obtain ⟨k0, n0, m0⟩ := x
  have a1 := ORow.set supEnc h h0 (y := ⟨k, n0, m0⟩) (j := 0) (u := .int .i64 (k : Int)) (by decide) rfl
  have a2 := ORow.set supEnc a1 (i := i) (x := ⟨k, n0, m0⟩) (y := ⟨k, n1, m0⟩) (by simp [hi]) (j := 1) (u := .int .i64 (n1 : Int)) (by decide) rfl
  have a3 := ORow.set supEnc a2 (i := i) (x := ⟨k, n1, m0⟩) (y := ⟨k, n1, m⟩) (by simp [hi]) (j := 2) (u := .int .u64 (m : Int)) (by decide) rfl
  rw [List.set_set, List.set_set, Nat.add_zero] at a3
  exact a3
set_option maxHeartbeats 2000000 in
theorem rwith_any (v : Value) (l : List Sb) (i : Nat) (s : Sb) (w : World) (hR : Hid (RS w v l)) (hi : i < l.length) (few : l.length ≤ 1000) :
    Calls Tryd.prog 73 #[v, .int .i64 (i : Nat), .agg #[.int .i64 (s.k : Nat), .int .i64 (s.n : Nat), .int .u64 (s.m : Nat)]] w fun e w' => ∃ v', e = .returned v' ∧ RS w' v' (l.set i s) ∧ Below w.heap.size w w' := by
  obtain ⟨rb, rc, rfl, hrb, _, _, _⟩ := hR.out.cells (at_of hi)
  obtain ⟨q1, q2, q3, q4⟩ := two_fresh w (.cells #[.int .i64 (s.k : Nat), .int .i64 (s.n : Nat), .int .u64 (s.m : Nat)] 99) (.cells #[] 99)
  have B2 := Lib.hid q3
  have SZ := Lib.hid q4
  have N1 := Lib.hid q1
  have R2 := Lib.hid (hR.out.next q3)
  have EM : Hid (RS ((w.alloc (.cells #[.int .i64 (s.k : Nat), .int .i64 (s.n : Nat), .int .u64 (s.m : Nat)] 99)).alloc (.cells #[] 99)) (.slice (some ⟨w.heap.size + 1, 0, none⟩) 0 0) []) := by
    have := RS.empty (w.alloc (.cells #[.int .i64 (s.k : Nat), .int .i64 (s.n : Nat), .int .u64 (s.m : Nat)] 99))
    rw [show (w.alloc (.cells #[.int .i64 (s.k : Nat), .int .i64 (s.n : Nat), .int .u64 (s.m : Nat)] 99)).heap.size = w.heap.size + 1 by simp] at this
    exact this
  clear q1 q2 q3 q4
  obtain ⟨v', w3, hrun, R3, gr, ow⟩ := RS.copy EM.out R2.out few 31
  have HR := Lib.hid hrun
  have HR3 := Lib.hid R3
  obtain ⟨vb, vcap, rfl, hvb, x0, x1, x2⟩ := R3.cells (at_of hi)
  have hvw : Hid (w.heap.size ≤ vb) := by
    have := SZ.out
    rcases ow with e | e <;> simp [Value.ownBlock] at e <;> (show _ ≤ _; omega)
  have B3 : Hid (Below w.heap.size w w3) := B2.out.grown gr B2.out.size (fun k e => by simp [Value.ownBlock] at e; omega)
  have fz : ∀ j, w3.frozen? ⟨vb, j, none⟩ = false := by
    rcases ORow.cases R3 with ⟨h1, _⟩ | ⟨b', cap, cur, h1, h2, _⟩
    · cases h1
    · cases h1; exact fun j => frozen_of h2
  have N3 : Hid (w3.heap[w.heap.size]? = _) := (gr.block _ (by have := SZ.out; omega) (by simp [Value.ownBlock])).trans N1.out
  have s0 : w3.cell? ⟨w.heap.size, 0, none⟩ = some (.int .i64 (s.k : Nat)) := by rw [cell_of N3.out]; rfl
  have s1 : w3.cell? ⟨w.heap.size, 1, none⟩ = some (.int .i64 (s.n : Nat)) := by rw [cell_of N3.out]; rfl
  have s2 : w3.cell? ⟨w.heap.size, 2, none⟩ = some (.int .u64 (s.m : Nat)) := by rw [cell_of N3.out]; rfl
  have l3 : (i : Int) < (l.length : Int) := by omega
  clear hrun R3 gr ow N1 N3
  go_enter Tryd.func73, Tryd.ntmps73
  go_wp2_with (at_builtin; refine wpList_append_by rfl _ _ 31 31 rfl (.slice (some ⟨w.heap.size + 1, 0, none⟩) 0 0) (.slice (some ⟨rb, 0, none⟩) l.length rc) (by rfl) (by rfl) HR.out ?_)
  go_ret
  refine ⟨_, rfl, HR3.out.put hi s, ?_⟩
  exact below_set (below_set (below_set B3.out hvw.out) hvw.out) hvw.out
end Go.Proofs.YtkogeeaoppkhkaaDoor
