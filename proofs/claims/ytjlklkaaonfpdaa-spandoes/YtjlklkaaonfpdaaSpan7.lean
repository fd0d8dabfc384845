/-
  Contracts of slices.Insert as one, and of (*Map).Put.
-/
import Derived.Test.YtjlklkaaonfpdaaSpan6
namespace Go.Proofs.Ytjlklkaaonfpdaa
open Go.RowKit Go.Sort

theorem insert_any (x : Iv) (l : List Iv) (v : Value) (i vb : Nat) (w : World) (hR : Hid (IvRow w v l)) (hi : i ≤ l.length) (few : l.length ≤ 100000)
    (hv : Hid (w.heap[vb]? = some (.cells #[.int .i64 x.1, .int .i64 x.2] 56 (0, 0)))) (hne : v.ownBlock ≠ some vb) :
    Calls Try.prog 51 #[v, .int .i64 i, .slice (some ⟨vb, 0, none⟩) 1 1] w fun e w' =>
      ∃ v', e = .returned v' ∧ IvRow w' v' (l.take i ++ x :: l.drop i) ∧ w.grownBy w' v.ownBlock ∧ (v'.ownBlock = v.ownBlock ∨ v'.ownBlock = some w.heap.size) := by
  by_cases he : i = l.length
  · subst he
    rw [List.take_length, List.drop_length]
    exact insert_end x l v vb w hR few hv
  · rcases hR.out.cases with ⟨rfl, rfl⟩ | ⟨b, cap, cur, rfl, hB⟩
    · exact absurd (Nat.le_zero.1 hi) he
    · by_cases hr : l.length + 1 ≤ cap
      · refine (insert_shift x l i b cap vb cur w hB (by omega) hr few hv (fun h => hne (by rw [h]; rfl))).mono ?_
        rintro e w' ⟨v', h1, h2, h3, h4⟩
        exact ⟨v', h1, h2, h3, .inl h4⟩
      · refine (insert_grow x l i b cap vb cur w hB (by omega) (by omega) few hv).mono ?_
        rintro e w' ⟨v', h1, h2, h3, h4⟩
        exact ⟨v', h1, h2, h3, .inr h4⟩

theorem set_of7 {w : World} {g : Nat} {a b : Value} {t : TypeId} (h : w.heap[g]? = some (.cells #[a] t (0, 0))) : (w.setCell ⟨g, 0, none⟩ b).heap[g]? = some (.cells #[b] t (0, 0)) := by
  have := (Array.getElem?_eq_some_iff.1 h).1
  simp [World.setCell, Array.getElem?_modify, h]
theorem set_other7 {w : World} {g j k : Nat} (hk : k ≠ g) (v : Value) : (w.setCell ⟨g, j, none⟩ v).heap[k]? = w.heap[k]? := Below.heap_setCell _ _ _ _ hk
/-- Nothing but the map in g, whose row was v, turned. -/
structure MEl (g : Nat) (v : Value) (w w' : World) : Prop where
  os : w'.os = w.os
  tape : w'.tape = w.tape
  output : w'.output = w.output
  size : w.heap.size ≤ w'.heap.size
  block : ∀ k, k < w.heap.size → k ≠ g → v.ownBlock ≠ some k → w'.heap[k]? = w.heap[k]?
theorem MEl.of {g : Nat} {v : Value} {w w' : World} (h : Below w.heap.size w w') : MEl g v w w' := ⟨h.os, h.tape, h.output, h.size, fun k hk _ _ => h.block k hk⟩
/-- The row is the one that was, or a new one. -/
def OwnStep (n : Nat) (v v' : Value) : Prop := v'.ownBlock = v.ownBlock ∨ ∃ k, v'.ownBlock = some k ∧ n ≤ k
theorem put_done {g N : Nat} {v v' : Value} {l l' : List Iv} {w w1 w2 : World} (m : MapAt w g v l) (hb : Below w.heap.size w w1) (hr : IvRow w2 v' l') (hg : w1.grownBy w2 v.ownBlock) (ho : v'.ownBlock = v.ownBlock ∨ v'.ownBlock = some N) (hN : w.heap.size ≤ N) (few : l'.length ≤ 100000) :
    MapAt (w2.setCell ⟨g, 0, none⟩ v') g v' l' ∧ MEl g v w (w2.setCell ⟨g, 0, none⟩ v') ∧ OwnStep w.heap.size v v' := by
  have hlt := m.lt
  have hgv : v.ownBlock ≠ some g := m.ne
  have h2 : w2.heap[g]? = some (.cells #[v] 54 (0, 0)) := (hg.block g (Nat.lt_of_lt_of_le hlt hb.size) (fun h => hgv h.symm)).trans ((hb.block g hlt).trans m.head)
  have hne : v'.ownBlock ≠ some g := by
    rcases ho with h | h
    · rw [h]; exact hgv
    · rw [h]; simp; omega
  refine ⟨⟨set_of7 h2, ?_, hne, few⟩, ⟨?_, ?_, ?_, ?_, ?_⟩, ?_⟩
  · exact hr.next fun k hk => set_other7 (fun h => hne (by rw [hk, h])) _
  · exact hg.os.trans hb.os
  · exact hg.tape.trans hb.tape
  · exact hg.output.trans hb.output
  · simpa using Nat.le_trans hb.size hg.size
  · intro k hk hkg hkv
    rw [set_other7 hkg, hg.block k (Nat.lt_of_lt_of_le hk hb.size) (fun h => hkv h.symm), hb.block k hk]
  · rcases ho with h | h
    · exact .inl h
    · exact .inr ⟨N, h, hN⟩

theorem row_form {w : World} {v : Value} {l : List Iv} (h : IvRow w v l) : ∃ a n c, v = .slice a n c := by
  rcases h.cases with ⟨rfl, _⟩ | ⟨b, cap, cur, rfl, _⟩
  · exact ⟨_, _, _, rfl⟩
  · exact ⟨_, _, _, rfl⟩
theorem keep2 {w w' : World} {N : Nat} {x y : Int} (h : w.cell? ⟨N, 0, none⟩ = some (.int .i64 x) ∧ w.cell? ⟨N, 1, none⟩ = some (.int .i64 y)) (hb : Below w.heap.size w w') : w'.cell? ⟨N, 0, none⟩ = some (.int .i64 x) ∧ w'.cell? ⟨N, 1, none⟩ = some (.int .i64 y) :=
  ⟨(hb.cell (p := ⟨N, 0, none⟩) (World.block_lt_of_cell? _ _ h.1)).trans h.1, (hb.cell (p := ⟨N, 1, none⟩) (World.block_lt_of_cell? _ _ h.2)).trans h.2⟩
theorem keep_far {w w' : World} {N : Nat} {x y : Int} {r : Option Nat} (h : w.cell? ⟨N, 0, none⟩ = some (.int .i64 x) ∧ w.cell? ⟨N, 1, none⟩ = some (.int .i64 y)) (hg : w.grownBy w' r) (hr : r ≠ some N) : w'.cell? ⟨N, 0, none⟩ = some (.int .i64 x) ∧ w'.cell? ⟨N, 1, none⟩ = some (.int .i64 y) :=
  ⟨(hg.cell_far ⟨N, 0, none⟩ (World.block_lt_of_cell? _ _ h.1) (fun e => hr e.symm)).trans h.1, (hg.cell_far ⟨N, 1, none⟩ (World.block_lt_of_cell? _ _ h.2) (fun e => hr e.symm)).trans h.2⟩
theorem gone_far {g : Nat} {v : Value} {l : List Iv} {w w1 w2 : World} (m : MapAt w g v l) (hb : Below w.heap.size w w1) (hg : w1.grownBy w2 v.ownBlock) : w2.cell? ⟨g, 0, none⟩ = some v ∧ w2.frozen? ⟨g, 0, none⟩ = false := by
  have h2 : w2.heap[g]? = some (.cells #[v] 54 (0, 0)) := (hg.block g (Nat.lt_of_lt_of_le m.lt hb.size) (fun h => m.ne h.symm)).trans ((hb.block g m.lt).trans m.head)
  exact ⟨by simp [World.cell?, h2], by simp [World.frozen?, h2]⟩
theorem cell_set {w : World} {g N j : Nat} (h : g ≠ N) (u : Value) : (w.setCell ⟨g, 0, none⟩ u).cell? ⟨N, j, none⟩ = w.cell? ⟨N, j, none⟩ := World.cell?_of_block (set_other7 h.symm u)
theorem MEl.pre {g : Nat} {v : Value} {w w1 w2 : World} (hb : Below w.heap.size w w1) (h : MEl g v w1 w2) : MEl g v w w2 :=
  ⟨h.os.trans hb.os, h.tape.trans hb.tape, h.output.trans hb.output, Nat.le_trans hb.size h.size, fun k hk h1 h2 => (h.block k (Nat.lt_of_lt_of_le hk hb.size) h1 h2).trans (hb.block k hk)⟩
theorem OwnStep.pre {n n' : Nat} {v v' : Value} (h : OwnStep n' v v') (hn : n ≤ n') : OwnStep n v v' := by
  rcases h with h | ⟨k, h1, h2⟩
  · exact .inl h
  · exact .inr ⟨k, h1, by omega⟩

set_option maxRecDepth 20000 in
set_option maxHeartbeats 4000000 in
theorem put_any (g : Nat) (v : Value) (l : List Iv) (x y : Int) (w : World) (m : Hid (MapAt w g v l)) (gd : Hid (Good l)) (few : l.length < 100000) :
    Calls Try.prog 36 #[.pointer (some ⟨g, 0, none⟩), .agg #[.int .i64 x, .int .i64 y]] w fun e w' => e = .returned (.bool (putB l (x, y))) ∧ ∃ v', MapAt w' g v' (putL l (x, y)) ∧ MEl g v w w' ∧ OwnStep w.heap.size v v' := by
  have b1 := below_alloc w (.cells #[.int .i64 x, .int .i64 y] 56)
  have M1 := Lib.hid (m.out.next b1)
  have E1 := Lib.hid (heap_at w (.cells #[.int .i64 x, .int .i64 y] 56))
  have B1 := Lib.hid b1
  have HLE := endN_le l x
  have few' : l.length ≤ 100000 := by omega
  have GD := gd
  have HNN : Hid (v.ownBlock ≠ some w.heap.size) := fun h => by have := m.out.row.lt h; omega
  have HGN : Hid (g ≠ w.heap.size) := by have := m.out.lt; show g ≠ w.heap.size; omega
  have HP : Hid (putB l (x, y) = (mayI (x, y) && !overB l (x, y))) := rfl
  have HL : Hid (putL l (x, y) = if putB l (x, y) then insL (x, y) l else l) := rfl
  have HMB : Hid (mayI (x, y) = true → -1099511627776 ≤ x ∧ x ≤ 1099511627776) := fun h => by simp [mayI] at h; omega
  have HNO : Hid (∀ w', MapAt w' g v l → Below w.heap.size w w' → ∃ v', MapAt w' g v' l ∧ MEl g v w w' ∧ OwnStep w.heap.size v v') := fun w' h1 h2 => ⟨v, h1, MEl.of h2, .inl rfl⟩
  clear b1
  go_enter Try.func36, Try.ntmps36
  go_wp2_with fail
  generalize w.alloc (.cells #[.int .i64 x, .int .i64 y] 56) = w1 at *
  generalize hN : w.heap.size = N at *
  refine (may_any x y _).mono ?_
  rintro e w2 ⟨rfl, hb⟩
  have M2 := Lib.hid (M1.out.next hb)
  have B2 := Lib.hid (Below.trans B1.out (hb.mono (by rw [← hN]; exact B1.out.size)))
  have E2 := Lib.hid ((hb.block N (Array.getElem?_eq_some_iff.1 E1.out).1).trans E1.out)
  clear hb M1 B1 E1
  rcases hmay : mayI (x, y) with _ | _
  · have HF : Hid (putB l (x, y) = false) := by show _ = _; rw [HP.out, hmay]; rfl
    clear hmay
    go_wp2_with fail
    go_ret
    exact ⟨by rw [HF.out]; first | done | rfl, by rw [HL.out, HF.out]; have := HNO.out _ M2.out (by first | exact B2.out | (rw [hN]; exact B2.out)); simpa [hN] using this⟩
  · have HMY := Lib.hid hmay
    obtain ⟨x1, x2⟩ := HMB.out hmay
    have x2' : w2.cell? ⟨N, 0, none⟩ = some (.int .i64 x) := by simp [World.cell?, E2.out]
    have y2' : w2.cell? ⟨N, 1, none⟩ = some (.int .i64 y) := by simp [World.cell?, E2.out]
    clear hmay
    go_wp2_with fail
    refine (over_any g v l x y _ M2 gd x1 x2).mono ?_
    rintro e wb ⟨rfl, hb⟩
    have M := Lib.hid (M2.out.next hb)
    have B3 := Lib.hid (Below.trans B2.out (hb.mono (by rw [← hN]; exact B2.out.size)))
    have E3 := (hb.block N (Array.getElem?_eq_some_iff.1 E2.out).1).trans E2.out
    have x3 : wb.drew.cell? ⟨N, 0, none⟩ = some (.int .i64 x) := by show wb.cell? _ = _; simp [World.cell?, E3]
    have y3 : wb.drew.cell? ⟨N, 1, none⟩ = some (.int .i64 y) := by show wb.cell? _ = _; simp [World.cell?, E3]
    clear hb M2 B2 E2 E3 x2' y2'
    rcases hov : overB l (x, y) with _ | _
    · have HT : Hid (putB l (x, y) = true) := by show _ = _; rw [HP.out, HMY.out, hov]; rfl
      clear hov
      have HEB := Lib.hid (fun w mm => ends_behind g v l x w mm GD)
      have HNV : Hid (∀ vb, wb.heap.size ≤ vb → v.ownBlock ≠ some vb) := fun vb h1 h2 => by have := M.out.row.lt h2; omega
      have HBS : Hid (w.heap.size ≤ wb.heap.size) := B3.out.size
      go_wp2_with fail
      go_cut [4] (fun _ wx => ∃ v', MapAt wx g v' (insL (x, y) l) ∧ MEl g v wb wx ∧ OwnStep wb.heap.size v v')
      case first =>
        refine wp_region_noPanic ?_
        refine wp_region_held_drew (S := fun w' => w'.cell? ⟨N, 0, none⟩ = some (.int .i64 x) ∧ w'.cell? ⟨N, 1, none⟩ = some (.int .i64 y)) (by kernel_rfl) ⟨x3, y3⟩ (fun hHeld0 => ?_)
        have B0 : Hid (Below wb.heap.size wb wb.drew) := (Below.refl _ _).drew
        generalize wb.drew = wr at *
        refine wpAnyH_take (i := 0) (v := .pointer (some ⟨g, 0, none⟩)) rfl (by kernel_rfl) (by kernel_rfl) (by kernel_rfl) (fun _ _ _ h => h) (Or.inl ⟨by rfl, fun w hSw => by go_simp⟩) (by assumption) ?_
        change wpAnyH _ _ _ _ _ _ _ (Act.put _ (some 17) _) _
        simp only [Act.put, List.setIfInBounds_toArray, List.set_cons_zero, List.set_cons_succ]
        refine wpAnyH_take (i := 1) (v := .pointer (some ⟨g, 0, none⟩)) rfl (by kernel_rfl) (by kernel_rfl) (by kernel_rfl) (fun _ _ _ h => h) (Or.inl ⟨by rfl, fun w hSw => by go_simp⟩) (by assumption) ?_
        change wpAnyH _ _ _ _ _ _ _ (Act.put _ (some 18) _) _
        simp only [Act.put, List.setIfInBounds_toArray, List.set_cons_zero, List.set_cons_succ]
        refine wpAnyH_take (i := 2) (v := .pointer (some ⟨g, 0, none⟩)) rfl (by kernel_rfl) (by kernel_rfl) (by kernel_rfl) (fun _ _ _ h => h) (Or.inl ⟨by rfl, fun w hSw => by go_simp⟩) (by assumption) ?_
        change wpAnyH _ _ _ _ _ _ _ (Act.put _ (some 19) _) _
        simp only [Act.put, List.setIfInBounds_toArray, List.set_cons_zero, List.set_cons_succ]
        refine wpAnyH_take (i := 3) (v := .pointer (some ⟨g, 0, none⟩)) rfl (by kernel_rfl) (by kernel_rfl) (by kernel_rfl) (fun _ _ _ h => h) (Or.inl ⟨by rfl, fun w hSw => by go_simp⟩) (by assumption) ?_
        change wpAnyH _ _ _ _ _ _ _ (Act.put _ (some 20) _) _
        simp only [Act.put, List.setIfInBounds_toArray, List.set_cons_zero, List.set_cons_succ]
        refine wpAnyH_take (i := 5) (v := .pointer (some ⟨g, 0, none⟩)) rfl (by kernel_rfl) (by kernel_rfl) (by kernel_rfl) (fun _ _ _ h => h) (Or.inl ⟨by rfl, fun w hSw => by go_simp⟩) (by assumption) ?_
        change wpAnyH _ _ _ _ _ _ _ (Act.put _ (some 22) _) _
        simp only [Act.put, List.setIfInBounds_toArray, List.set_cons_zero, List.set_cons_succ]
        refine wpAnyH_take (i := 6) (v := .pointer (some ⟨N, 0, none⟩)) rfl (by kernel_rfl) (by kernel_rfl) (by kernel_rfl) (fun _ _ _ h => h) (Or.inl ⟨by rfl, fun w hSw => by go_simp⟩) (by assumption) ?_
        change wpAnyH _ _ _ _ _ _ _ (Act.put _ (some 23) _) _
        simp only [Act.put, List.setIfInBounds_toArray, List.set_cons_zero, List.set_cons_succ]
        refine wpAnyH_take (i := 7) (v := .int .i64 x) rfl (by kernel_rfl) (by kernel_rfl) (by kernel_rfl) (fun _ _ _ h => h) (Or.inl ⟨by rfl, fun w hSw => by obtain ⟨s0, s1⟩ := hSw; go_simp⟩) (by assumption) ?_
        change wpAnyH _ _ _ _ _ _ _ (Act.put _ (some 24) _) _
        simp only [Act.put, List.setIfInBounds_toArray, List.set_cons_zero, List.set_cons_succ]
        refine wpAnyH_take (i := 9) (v := .agg #[.int .i64 x, .int .i64 y]) rfl (by kernel_rfl) (by kernel_rfl) (by kernel_rfl) (fun _ _ _ h => h) (Or.inl ⟨by rfl, fun w hSw => by obtain ⟨s0, s1⟩ := hSw; go_simp⟩) (by assumption) ?_
        change wpAnyH _ _ _ _ _ _ _ (Act.put _ (some 26) _) _
        simp only [Act.put, List.setIfInBounds_toArray, List.set_cons_zero, List.set_cons_succ]
        refine wpAnyH_ready (rs := [4, 8, 10]) (by kernel_rfl) (by simp) ?_
        refine AllReadyH.cons rfl (fun K hK => ?_) (AllReadyH.cons rfl (fun K hK => ?_) (AllReadyH.cons rfl (fun K hK => ?_) AllReadyH.nil))
        · have cg := (B0.out.cell (p := ⟨g, 0, none⟩) M.out.lt).trans M.out.c0
          go_simp
          refine hK.out _ _ hHeld0 (fun hHeld1 => ?_)
          clear hK K cg
          refine wpAnyH_ready (rs := [8, 10]) (by kernel_rfl) (by simp) ?_
          refine AllReadyH.cons rfl (fun K hK => ?_) (AllReadyH.cons rfl (fun K hK => ?_) AllReadyH.nil)
          · go_simp
            refine (HEB.out _ (M.out.next B0.out)).mono ?_
            rintro e y1 ⟨rfl, hb1⟩
            have B2 : Hid (Below wb.heap.size wb y1) := below_after B0.out hb1
            have K1 := keep2 hHeld1 hb1
            clear hb1
            go_wp2_with fail
            refine hK.out _ _ K1 (fun hHeld2 => ?_)
            clear hK K
            refine wpAnyH_ready (rs := [10]) (by kernel_rfl) (by simp) ?_
            refine AllReadyH.cons rfl (fun K hK => ?_) AllReadyH.nil
            · have B3 := Lib.hid (below_after B2.out (below_alloc y1 (.cells #[.int .i64 x, .int .i64 y] 56)))
              have V2 := Lib.hid (heap_at y1 (.cells #[.int .i64 x, .int .i64 y] 56))
              have L2 : Hid (wb.heap.size ≤ y1.heap.size) := B2.out.size
              have K2 := keep2 hHeld2 (below_alloc y1 (.cells #[.int .i64 x, .int .i64 y] 56))
              go_simp
              refine hK.out _ _ K2 (fun hHeld3 => ?_)
              clear hK K
              generalize y1.alloc (.cells #[.int .i64 x, .int .i64 y] 56) = u2 at *
              generalize y1.heap.size = vb at *
              refine wpAnyH_ready (rs := [11]) (by kernel_rfl) (by simp) ?_
              refine AllReadyH.cons rfl (fun K hK => ?_) AllReadyH.nil
              go_simp
              refine (insert_any (x, y) l v (endN l x) vb u2 (M.out.row.below B3.out) HLE few' V2 (HNV.out vb L2.out)).mono ?_
              rintro e z ⟨v', rfl, hr, hg, ho⟩
              obtain ⟨b', n', c', rfl⟩ := row_form hr
              have KZ := keep_far hHeld3 hg HNN.out
              have hz := gone_far M.out B3.out hg
              have HD := Lib.hid (put_done M.out B3.out hr hg ho B3.out.size (by rw [← ins_at GD.out (x, y), len_ins]; omega))
              clear hr hg ho
              go_wp2_with fail
              refine hK.out _ _ KZ (fun hHeldz => ?_)
              clear hK K
              refine wpAnyH_take (i := 12) (v := .pointer (some ⟨g, 0, none⟩)) rfl (by kernel_rfl) (by kernel_rfl) (by kernel_rfl) (fun _ _ _ h => h) (Or.inl ⟨by rfl, fun w hSw => by go_simp⟩) (by assumption) ?_
              change wpAnyH _ _ _ _ _ _ _ (Act.put _ (some 29) _) _
              simp only [Act.put, List.setIfInBounds_toArray, List.set_cons_zero, List.set_cons_succ]
              refine wpAnyH_take (i := 13) (v := .pointer (some ⟨g, 0, none⟩)) rfl (by kernel_rfl) (by kernel_rfl) (by kernel_rfl) (fun _ _ _ h => h) (Or.inl ⟨by rfl, fun w hSw => by go_simp⟩) (by assumption) ?_
              change wpAnyH _ _ _ _ _ _ _ (Act.put _ (some 30) _) _
              simp only [Act.put, List.setIfInBounds_toArray, List.set_cons_zero, List.set_cons_succ]
              refine wpAnyH_ready (rs := [14]) (by kernel_rfl) (by simp) ?_
              refine AllReadyH.cons rfl (fun K hK => ?_) AllReadyH.nil
              obtain ⟨cz, fz⟩ := hz
              go_simp
              refine hK.out _ _ ⟨(cell_set HGN.out _).trans hHeldz.1, (cell_set HGN.out _).trans hHeldz.2⟩ (fun hHeldy => ?_)
              clear hK K
              refine wpAnyH_done (by kernel_rfl) ?_ _
              refine NoPanic.normal ?_
              go_wp2_with fail
              go_meet
              case rel => exact ⟨_, by rw [ins_at GD.out (x, y)]; exact HD.out⟩
          · have B2 := Lib.hid (below_after B0.out (below_alloc wr (.cells #[.int .i64 x, .int .i64 y] 56)))
            have V1 := Lib.hid (heap_at wr (.cells #[.int .i64 x, .int .i64 y] 56))
            have L1 : Hid (wb.heap.size ≤ wr.heap.size) := B0.out.size
            have K1 := keep2 hHeld1 (below_alloc wr (.cells #[.int .i64 x, .int .i64 y] 56))
            go_simp
            refine hK.out _ _ K1 (fun hHeld2 => ?_)
            clear hK K
            generalize wr.alloc (.cells #[.int .i64 x, .int .i64 y] 56) = u1 at *
            generalize wr.heap.size = vb at *
            refine wpAnyH_ready (rs := [8]) (by kernel_rfl) (by simp) ?_
            refine AllReadyH.cons rfl (fun K hK => ?_) AllReadyH.nil
            · go_simp
              refine (HEB.out _ (M.out.next B2.out)).mono ?_
              rintro e y2 ⟨rfl, hb2⟩
              have B3 : Hid (Below wb.heap.size wb y2) := below_after B2.out hb2
              have K2 := keep2 hHeld2 hb2
              have V2 := Lib.hid ((hb2.block _ (Array.getElem?_eq_some_iff.1 V1.out).1).trans V1.out)
              clear hb2
              go_wp2_with fail
              refine hK.out _ _ K2 (fun hHeld3 => ?_)
              clear hK K
              refine wpAnyH_ready (rs := [11]) (by kernel_rfl) (by simp) ?_
              refine AllReadyH.cons rfl (fun K hK => ?_) AllReadyH.nil
              go_simp
              refine (insert_any (x, y) l v (endN l x) vb y2 (M.out.row.below B3.out) HLE few' V2 (HNV.out vb L1.out)).mono ?_
              rintro e z ⟨v', rfl, hr, hg, ho⟩
              obtain ⟨b', n', c', rfl⟩ := row_form hr
              have KZ := keep_far hHeld3 hg HNN.out
              have hz := gone_far M.out B3.out hg
              have HD := Lib.hid (put_done M.out B3.out hr hg ho B3.out.size (by rw [← ins_at GD.out (x, y), len_ins]; omega))
              clear hr hg ho
              go_wp2_with fail
              refine hK.out _ _ KZ (fun hHeldz => ?_)
              clear hK K
              refine wpAnyH_take (i := 12) (v := .pointer (some ⟨g, 0, none⟩)) rfl (by kernel_rfl) (by kernel_rfl) (by kernel_rfl) (fun _ _ _ h => h) (Or.inl ⟨by rfl, fun w hSw => by go_simp⟩) (by assumption) ?_
              change wpAnyH _ _ _ _ _ _ _ (Act.put _ (some 29) _) _
              simp only [Act.put, List.setIfInBounds_toArray, List.set_cons_zero, List.set_cons_succ]
              refine wpAnyH_take (i := 13) (v := .pointer (some ⟨g, 0, none⟩)) rfl (by kernel_rfl) (by kernel_rfl) (by kernel_rfl) (fun _ _ _ h => h) (Or.inl ⟨by rfl, fun w hSw => by go_simp⟩) (by assumption) ?_
              change wpAnyH _ _ _ _ _ _ _ (Act.put _ (some 30) _) _
              simp only [Act.put, List.setIfInBounds_toArray, List.set_cons_zero, List.set_cons_succ]
              refine wpAnyH_ready (rs := [14]) (by kernel_rfl) (by simp) ?_
              refine AllReadyH.cons rfl (fun K hK => ?_) AllReadyH.nil
              obtain ⟨cz, fz⟩ := hz
              go_simp
              refine hK.out _ _ ⟨(cell_set HGN.out _).trans hHeldz.1, (cell_set HGN.out _).trans hHeldz.2⟩ (fun hHeldy => ?_)
              clear hK K
              refine wpAnyH_done (by kernel_rfl) ?_ _
              refine NoPanic.normal ?_
              go_wp2_with fail
              go_meet
              case rel => exact ⟨_, by rw [ins_at GD.out (x, y)]; exact HD.out⟩
        · go_simp
          refine (HEB.out _ (M.out.next B0.out)).mono ?_
          rintro e y0 ⟨rfl, hb0⟩
          have B1 : Hid (Below wb.heap.size wb y0) := below_after B0.out hb0
          have K0 := keep2 hHeld0 hb0
          clear hb0
          go_wp2_with fail
          refine hK.out _ _ K0 (fun hHeld1 => ?_)
          clear hK K
          refine wpAnyH_ready (rs := [4, 10]) (by kernel_rfl) (by simp) ?_
          refine AllReadyH.cons rfl (fun K hK => ?_) (AllReadyH.cons rfl (fun K hK => ?_) AllReadyH.nil)
          · have cg := (B1.out.cell (p := ⟨g, 0, none⟩) M.out.lt).trans M.out.c0
            go_simp
            refine hK.out _ _ hHeld1 (fun hHeld2 => ?_)
            clear hK K cg
            refine wpAnyH_ready (rs := [10]) (by kernel_rfl) (by simp) ?_
            refine AllReadyH.cons rfl (fun K hK => ?_) AllReadyH.nil
            · have B3 := Lib.hid (below_after B1.out (below_alloc y0 (.cells #[.int .i64 x, .int .i64 y] 56)))
              have V2 := Lib.hid (heap_at y0 (.cells #[.int .i64 x, .int .i64 y] 56))
              have L2 : Hid (wb.heap.size ≤ y0.heap.size) := B1.out.size
              have K2 := keep2 hHeld2 (below_alloc y0 (.cells #[.int .i64 x, .int .i64 y] 56))
              go_simp
              refine hK.out _ _ K2 (fun hHeld3 => ?_)
              clear hK K
              generalize y0.alloc (.cells #[.int .i64 x, .int .i64 y] 56) = u2 at *
              generalize y0.heap.size = vb at *
              refine wpAnyH_ready (rs := [11]) (by kernel_rfl) (by simp) ?_
              refine AllReadyH.cons rfl (fun K hK => ?_) AllReadyH.nil
              go_simp
              refine (insert_any (x, y) l v (endN l x) vb u2 (M.out.row.below B3.out) HLE few' V2 (HNV.out vb L2.out)).mono ?_
              rintro e z ⟨v', rfl, hr, hg, ho⟩
              obtain ⟨b', n', c', rfl⟩ := row_form hr
              have KZ := keep_far hHeld3 hg HNN.out
              have hz := gone_far M.out B3.out hg
              have HD := Lib.hid (put_done M.out B3.out hr hg ho B3.out.size (by rw [← ins_at GD.out (x, y), len_ins]; omega))
              clear hr hg ho
              go_wp2_with fail
              refine hK.out _ _ KZ (fun hHeldz => ?_)
              clear hK K
              refine wpAnyH_take (i := 12) (v := .pointer (some ⟨g, 0, none⟩)) rfl (by kernel_rfl) (by kernel_rfl) (by kernel_rfl) (fun _ _ _ h => h) (Or.inl ⟨by rfl, fun w hSw => by go_simp⟩) (by assumption) ?_
              change wpAnyH _ _ _ _ _ _ _ (Act.put _ (some 29) _) _
              simp only [Act.put, List.setIfInBounds_toArray, List.set_cons_zero, List.set_cons_succ]
              refine wpAnyH_take (i := 13) (v := .pointer (some ⟨g, 0, none⟩)) rfl (by kernel_rfl) (by kernel_rfl) (by kernel_rfl) (fun _ _ _ h => h) (Or.inl ⟨by rfl, fun w hSw => by go_simp⟩) (by assumption) ?_
              change wpAnyH _ _ _ _ _ _ _ (Act.put _ (some 30) _) _
              simp only [Act.put, List.setIfInBounds_toArray, List.set_cons_zero, List.set_cons_succ]
              refine wpAnyH_ready (rs := [14]) (by kernel_rfl) (by simp) ?_
              refine AllReadyH.cons rfl (fun K hK => ?_) AllReadyH.nil
              obtain ⟨cz, fz⟩ := hz
              go_simp
              refine hK.out _ _ ⟨(cell_set HGN.out _).trans hHeldz.1, (cell_set HGN.out _).trans hHeldz.2⟩ (fun hHeldy => ?_)
              clear hK K
              refine wpAnyH_done (by kernel_rfl) ?_ _
              refine NoPanic.normal ?_
              go_wp2_with fail
              go_meet
              case rel => exact ⟨_, by rw [ins_at GD.out (x, y)]; exact HD.out⟩
          · have B2 := Lib.hid (below_after B1.out (below_alloc y0 (.cells #[.int .i64 x, .int .i64 y] 56)))
            have V1 := Lib.hid (heap_at y0 (.cells #[.int .i64 x, .int .i64 y] 56))
            have L1 : Hid (wb.heap.size ≤ y0.heap.size) := B1.out.size
            have K1 := keep2 hHeld1 (below_alloc y0 (.cells #[.int .i64 x, .int .i64 y] 56))
            go_simp
            refine hK.out _ _ K1 (fun hHeld2 => ?_)
            clear hK K
            generalize y0.alloc (.cells #[.int .i64 x, .int .i64 y] 56) = u1 at *
            generalize y0.heap.size = vb at *
            refine wpAnyH_ready (rs := [4]) (by kernel_rfl) (by simp) ?_
            refine AllReadyH.cons rfl (fun K hK => ?_) AllReadyH.nil
            · have cg := (B2.out.cell (p := ⟨g, 0, none⟩) M.out.lt).trans M.out.c0
              go_simp
              refine hK.out _ _ hHeld2 (fun hHeld3 => ?_)
              clear hK K cg
              refine wpAnyH_ready (rs := [11]) (by kernel_rfl) (by simp) ?_
              refine AllReadyH.cons rfl (fun K hK => ?_) AllReadyH.nil
              go_simp
              refine (insert_any (x, y) l v (endN l x) vb u1 (M.out.row.below B2.out) HLE few' V1 (HNV.out vb L1.out)).mono ?_
              rintro e z ⟨v', rfl, hr, hg, ho⟩
              obtain ⟨b', n', c', rfl⟩ := row_form hr
              have KZ := keep_far hHeld3 hg HNN.out
              have hz := gone_far M.out B2.out hg
              have HD := Lib.hid (put_done M.out B2.out hr hg ho B2.out.size (by rw [← ins_at GD.out (x, y), len_ins]; omega))
              clear hr hg ho
              go_wp2_with fail
              refine hK.out _ _ KZ (fun hHeldz => ?_)
              clear hK K
              refine wpAnyH_take (i := 12) (v := .pointer (some ⟨g, 0, none⟩)) rfl (by kernel_rfl) (by kernel_rfl) (by kernel_rfl) (fun _ _ _ h => h) (Or.inl ⟨by rfl, fun w hSw => by go_simp⟩) (by assumption) ?_
              change wpAnyH _ _ _ _ _ _ _ (Act.put _ (some 29) _) _
              simp only [Act.put, List.setIfInBounds_toArray, List.set_cons_zero, List.set_cons_succ]
              refine wpAnyH_take (i := 13) (v := .pointer (some ⟨g, 0, none⟩)) rfl (by kernel_rfl) (by kernel_rfl) (by kernel_rfl) (fun _ _ _ h => h) (Or.inl ⟨by rfl, fun w hSw => by go_simp⟩) (by assumption) ?_
              change wpAnyH _ _ _ _ _ _ _ (Act.put _ (some 30) _) _
              simp only [Act.put, List.setIfInBounds_toArray, List.set_cons_zero, List.set_cons_succ]
              refine wpAnyH_ready (rs := [14]) (by kernel_rfl) (by simp) ?_
              refine AllReadyH.cons rfl (fun K hK => ?_) AllReadyH.nil
              obtain ⟨cz, fz⟩ := hz
              go_simp
              refine hK.out _ _ ⟨(cell_set HGN.out _).trans hHeldz.1, (cell_set HGN.out _).trans hHeldz.2⟩ (fun hHeldy => ?_)
              clear hK K
              refine wpAnyH_done (by kernel_rfl) ?_ _
              refine NoPanic.normal ?_
              go_wp2_with fail
              go_meet
              case rel => exact ⟨_, by rw [ins_at GD.out (x, y)]; exact HD.out⟩
        · have B1 := Lib.hid (below_after B0.out (below_alloc wr (.cells #[.int .i64 x, .int .i64 y] 56)))
          have V0 := Lib.hid (heap_at wr (.cells #[.int .i64 x, .int .i64 y] 56))
          have L0 : Hid (wb.heap.size ≤ wr.heap.size) := B0.out.size
          have K0 := keep2 hHeld0 (below_alloc wr (.cells #[.int .i64 x, .int .i64 y] 56))
          go_simp
          refine hK.out _ _ K0 (fun hHeld1 => ?_)
          clear hK K
          generalize wr.alloc (.cells #[.int .i64 x, .int .i64 y] 56) = u0 at *
          generalize wr.heap.size = vb at *
          refine wpAnyH_ready (rs := [4, 8]) (by kernel_rfl) (by simp) ?_
          refine AllReadyH.cons rfl (fun K hK => ?_) (AllReadyH.cons rfl (fun K hK => ?_) AllReadyH.nil)
          · have cg := (B1.out.cell (p := ⟨g, 0, none⟩) M.out.lt).trans M.out.c0
            go_simp
            refine hK.out _ _ hHeld1 (fun hHeld2 => ?_)
            clear hK K cg
            refine wpAnyH_ready (rs := [8]) (by kernel_rfl) (by simp) ?_
            refine AllReadyH.cons rfl (fun K hK => ?_) AllReadyH.nil
            · go_simp
              refine (HEB.out _ (M.out.next B1.out)).mono ?_
              rintro e y2 ⟨rfl, hb2⟩
              have B3 : Hid (Below wb.heap.size wb y2) := below_after B1.out hb2
              have K2 := keep2 hHeld2 hb2
              have V2 := Lib.hid ((hb2.block _ (Array.getElem?_eq_some_iff.1 V0.out).1).trans V0.out)
              clear hb2
              go_wp2_with fail
              refine hK.out _ _ K2 (fun hHeld3 => ?_)
              clear hK K
              refine wpAnyH_ready (rs := [11]) (by kernel_rfl) (by simp) ?_
              refine AllReadyH.cons rfl (fun K hK => ?_) AllReadyH.nil
              go_simp
              refine (insert_any (x, y) l v (endN l x) vb y2 (M.out.row.below B3.out) HLE few' V2 (HNV.out vb L0.out)).mono ?_
              rintro e z ⟨v', rfl, hr, hg, ho⟩
              obtain ⟨b', n', c', rfl⟩ := row_form hr
              have KZ := keep_far hHeld3 hg HNN.out
              have hz := gone_far M.out B3.out hg
              have HD := Lib.hid (put_done M.out B3.out hr hg ho B3.out.size (by rw [← ins_at GD.out (x, y), len_ins]; omega))
              clear hr hg ho
              go_wp2_with fail
              refine hK.out _ _ KZ (fun hHeldz => ?_)
              clear hK K
              refine wpAnyH_take (i := 12) (v := .pointer (some ⟨g, 0, none⟩)) rfl (by kernel_rfl) (by kernel_rfl) (by kernel_rfl) (fun _ _ _ h => h) (Or.inl ⟨by rfl, fun w hSw => by go_simp⟩) (by assumption) ?_
              change wpAnyH _ _ _ _ _ _ _ (Act.put _ (some 29) _) _
              simp only [Act.put, List.setIfInBounds_toArray, List.set_cons_zero, List.set_cons_succ]
              refine wpAnyH_take (i := 13) (v := .pointer (some ⟨g, 0, none⟩)) rfl (by kernel_rfl) (by kernel_rfl) (by kernel_rfl) (fun _ _ _ h => h) (Or.inl ⟨by rfl, fun w hSw => by go_simp⟩) (by assumption) ?_
              change wpAnyH _ _ _ _ _ _ _ (Act.put _ (some 30) _) _
              simp only [Act.put, List.setIfInBounds_toArray, List.set_cons_zero, List.set_cons_succ]
              refine wpAnyH_ready (rs := [14]) (by kernel_rfl) (by simp) ?_
              refine AllReadyH.cons rfl (fun K hK => ?_) AllReadyH.nil
              obtain ⟨cz, fz⟩ := hz
              go_simp
              refine hK.out _ _ ⟨(cell_set HGN.out _).trans hHeldz.1, (cell_set HGN.out _).trans hHeldz.2⟩ (fun hHeldy => ?_)
              clear hK K
              refine wpAnyH_done (by kernel_rfl) ?_ _
              refine NoPanic.normal ?_
              go_wp2_with fail
              go_meet
              case rel => exact ⟨_, by rw [ins_at GD.out (x, y)]; exact HD.out⟩
          · go_simp
            refine (HEB.out _ (M.out.next B1.out)).mono ?_
            rintro e y1 ⟨rfl, hb1⟩
            have B2 : Hid (Below wb.heap.size wb y1) := below_after B1.out hb1
            have K1 := keep2 hHeld1 hb1
            have V1 := Lib.hid ((hb1.block _ (Array.getElem?_eq_some_iff.1 V0.out).1).trans V0.out)
            clear hb1
            go_wp2_with fail
            refine hK.out _ _ K1 (fun hHeld2 => ?_)
            clear hK K
            refine wpAnyH_ready (rs := [4]) (by kernel_rfl) (by simp) ?_
            refine AllReadyH.cons rfl (fun K hK => ?_) AllReadyH.nil
            · have cg := (B2.out.cell (p := ⟨g, 0, none⟩) M.out.lt).trans M.out.c0
              go_simp
              refine hK.out _ _ hHeld2 (fun hHeld3 => ?_)
              clear hK K cg
              refine wpAnyH_ready (rs := [11]) (by kernel_rfl) (by simp) ?_
              refine AllReadyH.cons rfl (fun K hK => ?_) AllReadyH.nil
              go_simp
              refine (insert_any (x, y) l v (endN l x) vb y1 (M.out.row.below B2.out) HLE few' V1 (HNV.out vb L0.out)).mono ?_
              rintro e z ⟨v', rfl, hr, hg, ho⟩
              obtain ⟨b', n', c', rfl⟩ := row_form hr
              have KZ := keep_far hHeld3 hg HNN.out
              have hz := gone_far M.out B2.out hg
              have HD := Lib.hid (put_done M.out B2.out hr hg ho B2.out.size (by rw [← ins_at GD.out (x, y), len_ins]; omega))
              clear hr hg ho
              go_wp2_with fail
              refine hK.out _ _ KZ (fun hHeldz => ?_)
              clear hK K
              refine wpAnyH_take (i := 12) (v := .pointer (some ⟨g, 0, none⟩)) rfl (by kernel_rfl) (by kernel_rfl) (by kernel_rfl) (fun _ _ _ h => h) (Or.inl ⟨by rfl, fun w hSw => by go_simp⟩) (by assumption) ?_
              change wpAnyH _ _ _ _ _ _ _ (Act.put _ (some 29) _) _
              simp only [Act.put, List.setIfInBounds_toArray, List.set_cons_zero, List.set_cons_succ]
              refine wpAnyH_take (i := 13) (v := .pointer (some ⟨g, 0, none⟩)) rfl (by kernel_rfl) (by kernel_rfl) (by kernel_rfl) (fun _ _ _ h => h) (Or.inl ⟨by rfl, fun w hSw => by go_simp⟩) (by assumption) ?_
              change wpAnyH _ _ _ _ _ _ _ (Act.put _ (some 30) _) _
              simp only [Act.put, List.setIfInBounds_toArray, List.set_cons_zero, List.set_cons_succ]
              refine wpAnyH_ready (rs := [14]) (by kernel_rfl) (by simp) ?_
              refine AllReadyH.cons rfl (fun K hK => ?_) AllReadyH.nil
              obtain ⟨cz, fz⟩ := hz
              go_simp
              refine hK.out _ _ ⟨(cell_set HGN.out _).trans hHeldz.1, (cell_set HGN.out _).trans hHeldz.2⟩ (fun hHeldy => ?_)
              clear hK K
              refine wpAnyH_done (by kernel_rfl) ?_ _
              refine NoPanic.normal ?_
              go_wp2_with fail
              go_meet
              case rel => exact ⟨_, by rw [ins_at GD.out (x, y)]; exact HD.out⟩
      case rest =>
        obtain ⟨v', h1, h2, h3⟩ := hcut
        have HZ : Hid (∃ v', MapAt wc g v' (insL (x, y) l) ∧ MEl g v w wc ∧ OwnStep w.heap.size v v') := ⟨v', h1, MEl.pre (by rw [hN]; exact B3.out) h2, h3.pre HBS.out⟩
        clear h1 h2 h3
        go_wp2_with fail
        go_ret
        exact ⟨by rw [HT.out]; first | done | rfl, by rw [HL.out, HT.out]; simpa [hN] using HZ.out⟩
    · have HF : Hid (putB l (x, y) = false) := by show _ = _; rw [HP.out, hov]; simp
      clear hov x3 y3
      go_wp2_with fail
      go_ret
      exact ⟨by rw [HF.out]; first | done | rfl, by rw [HL.out, HF.out]; have := HNO.out _ M.out (by first | exact B3.out | (rw [hN]; exact B3.out)); simpa [hN] using this⟩

end Go.Proofs.Ytjlklkaaonfpdaa
