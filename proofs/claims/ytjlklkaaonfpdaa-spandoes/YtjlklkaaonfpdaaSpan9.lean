/-
  Contracts of package span: Drop, All.
-/
import Derived.Test.YtjlklkaaonfpdaaSpan8
namespace Go.Proofs.Ytjlklkaaonfpdaa
open Go.RowKit Go.Sort

theorem MapAt.keep {w w' : World} {g : Nat} {v : Value} {l : List Iv} (m : MapAt w g v l) (h1 : w'.heap[g]? = w.heap[g]?) (h2 : ∀ k, v.ownBlock = some k → w'.heap[k]? = w.heap[k]?) : MapAt w' g v l := ⟨h1.trans m.head, m.row.next h2, m.ne, m.few⟩
theorem two_other {w : World} {N k : Nat} (h : k ≠ N) (a b : Value) : ((w.setCell ⟨N, 0, none⟩ a).setCell ⟨N, 1, none⟩ b).heap[k]? = w.heap[k]? := (set_other7 h b).trans (set_other7 h a)
theorem drop_done {g N : Nat} {v v' : Value} {l : List Iv} {w w5 : World} (m : MapAt w5 g v' l) (h : MEl g v w w5) (hN : w.heap.size ≤ N) (hg : N ≠ g) (ho : v'.ownBlock ≠ some N) (a b : Value) :
    MapAt ((w5.setCell ⟨N, 0, none⟩ a).setCell ⟨N, 1, none⟩ b) g v' l ∧ MEl g v w ((w5.setCell ⟨N, 0, none⟩ a).setCell ⟨N, 1, none⟩ b) :=
  ⟨m.keep (two_other hg.symm a b) (fun k hk => two_other (fun e => ho (by rw [hk, e])) a b),
   ⟨h.os, h.tape, h.output, by simpa using h.size, fun k hk h1 h2 => (two_other (by omega) a b).trans (h.block k hk h1 h2)⟩⟩
theorem Duo6.far {w w' : World} {N : Nat} {a b : Int} {r : Option Nat} (h : Duo6 w N a b) (hg : w.grownBy w' r) (hr : r ≠ some N) : Duo6 w' N a b := (hg.block N h.lt (fun e => hr e.symm)).trans h
theorem Duo6.other {w : World} {N g : Nat} {a b : Int} (h : Duo6 w N a b) (hg : N ≠ g) (u : Value) : Duo6 (w.setCell ⟨g, 0, none⟩ u) N a b := (set_other7 hg u).trans h

set_option maxHeartbeats 2000000 in
theorem drop_any (g : Nat) (v : Value) (l : List Iv) (a : Int) (w : World) (m : Hid (MapAt w g v l)) (gd : Hid (Good l)) :
    Calls Try.prog 38 #[.pointer (some ⟨g, 0, none⟩), .int .i64 a] w fun e w' => e = .returned (getV (getO l a)) ∧ ∃ v', MapAt w' g v' (dropL l a) ∧ MEl g v w w' ∧ OwnStep w.heap.size v v' := by
  have b1 := below_alloc w (.cells #[.int .i64 0, .int .i64 0] 56)
  have M1 := Lib.hid (m.out.next b1)
  have D1 := Lib.hid (Duo6.new w 0 0)
  have B1 := Lib.hid b1
  have HG := Lib.hid (get_at gd.out a)
  have HL := begN_le l a
  have few := m.out.few
  have hgN : g < w.heap.size := m.out.lt
  have HV : Hid (∀ k, v.ownBlock = some k → k < w.heap.size) := fun k hk => m.out.row.lt hk
  clear b1
  go_enter Try.func38, Try.ntmps38
  go_wp2_with fail
  generalize w.alloc (.cells #[.int .i64 0, .int .i64 0] 56) = w1 at *
  generalize hN : w.heap.size = N at *
  refine (begins_at g v l a _ M1 gd).mono ?_
  rintro e w2 ⟨rfl, hb⟩
  have M2 := Lib.hid (M1.out.next hb)
  have D2 := Lib.hid (D1.out.next hb)
  have B2 := Lib.hid (Below.trans B1.out (hb.mono (by rw [← hN]; exact B1.out.size)))
  clear hb M1 B1 D1
  rcases ho : getO l a with _ | x
  · have HO := Lib.hid ho
    clear ho
    obtain ⟨e0, e1⟩ := D2.out.cells
    have z0 := D2.out.fz 0
    have z1 := D2.out.fz 1
    obtain ⟨r0, r1⟩ := (D2.out.set 0 0).cells
    have HB : Hid (∃ v', MapAt ((w2.setCell ⟨N, 0, none⟩ (.int .i64 0)).setCell ⟨N, 1, none⟩ (.int .i64 0)) g v' (dropL l a) ∧ MEl g v w ((w2.setCell ⟨N, 0, none⟩ (.int .i64 0)).setCell ⟨N, 1, none⟩ (.int .i64 0)) ∧ OwnStep w.heap.size v v') := by
      have h := drop_done (N := N) M2.out (MEl.of (g := g) (v := v) (by rw [hN]; exact B2.out)) (by omega) (by omega) (fun e => by have := HV.out N e; omega) (.int .i64 0) (.int .i64 0)
      rw [← drop_none HO.out] at h
      exact ⟨v, by rw [drop_none HO.out] at h ⊢; exact h.1, h.2, .inl rfl⟩
    go_wp2_with fail
    exact bodyPost_ret (v := .tuple #[.agg #[.int .i64 0, .int .i64 0], .bool false]) (by simp [results, Try.results38, go_sem, r0, r1]) rfl ⟨by rw [HO.out]; rfl, by have := HB.out; simpa [hN] using this⟩
  · have HO := Lib.hid ho
    rw [ho] at HG
    have hx : l[begN l a]? = some x := by
      have h := HG.out
      split at h
      · rename_i y hy
        split at h
        · cases h; exact hy
        · cases h
      · cases h
    have hlt : begN l a < l.length := (List.getElem?_eq_some_iff.1 hx).1
    have l2 : (begN l a : Int) < (l.length : Int) := by omega
    have HDR := Lib.hid (drop_at gd.out ho)
    have hgs : ¬ g = w2.heap.size := by have := M2.out.lt; omega
    rcases M2.out.row.cases with ⟨rfl, rfl⟩ | ⟨b, cap, cur, rfl, hB⟩
    · cases hx
    · obtain ⟨x0, x1⟩ := hB.two hx
      have c0 := M2.out.c0
      have b3 := below_alloc w2 (.cells #[.int .i64 x.1, .int .i64 x.2] 56)
      have M3 := Lib.hid (M2.out.next b3)
      have D3 := Lib.hid (D2.out.next b3)
      have X3 := Lib.hid (Duo6.new w2 x.1 x.2)
      have B3 := Lib.hid (Below.trans B2.out (b3.mono (by rw [← hN]; exact B2.out.size)))
      have HB3 := Lib.hid (hB.next (b3.block b hB.lt))
      have c3 := M3.out.c0
      have hbn : b < N := HV.out b rfl
      have hn8 : N ≤ w2.heap.size := by have := D2.out.lt; omega
      clear hB HG hx ho b3
      generalize hnn : begN l a = n at *
      have HNN := Lib.hid hnn
      clear hnn
      go_wp2_with fail
      generalize w2.alloc (.cells #[.int .i64 x.1, .int .i64 x.2] 56) = w3 at *
      generalize w2.heap.size = n8 at *
      refine (delete_any l n b cap cur _ HB3 hlt few).mono ?_
      rintro e w4 ⟨v', rfl, hr, hg, hov⟩
      obtain ⟨c4, f4⟩ := gone_far M3.out (Below.refl _ _) hg
      have D4 := Lib.hid (D3.out.far hg (by simp; omega))
      have X4 := Lib.hid (X3.out.far hg (by simp; omega))
      obtain ⟨h1, h2, h3⟩ := put_done M3.out (Below.refl _ _) hr hg (N := w3.heap.size) (.inl hov) (Nat.le_refl _) (by simp; omega)
      have HOV := Lib.hid hov
      obtain ⟨p', n', q', rfl⟩ := row_form hr
      have D5 := Lib.hid (D4.out.other (g := g) (by omega) (.slice p' n' q'))
      obtain ⟨x5, y5⟩ := (X4.out.other (g := g) (by omega) (.slice p' n' q')).cells
      obtain ⟨d0, d1⟩ := D5.out.cells
      have z0 := D5.out.fz 0
      have z1 := D5.out.fz 1
      obtain ⟨r0, r1⟩ := (D5.out.set x.1 x.2).cells
      have h6 := drop_done h1 (MEl.pre (by rw [hN]; exact B3.out) h2) (N := N) (by omega) (by omega) (by rw [HOV.out]; simp; omega) (.int .i64 x.1) (.int .i64 x.2)
      have HF : Hid (∃ v', MapAt (((w4.setCell ⟨g, 0, none⟩ (.slice p' n' q')).setCell ⟨N, 0, none⟩ (.int .i64 x.1)).setCell ⟨N, 1, none⟩ (.int .i64 x.2)) g v' (dropL l a) ∧ MEl g (.slice (some ⟨b, 0, none⟩) l.length cap) w (((w4.setCell ⟨g, 0, none⟩ (.slice p' n' q')).setCell ⟨N, 0, none⟩ (.int .i64 x.1)).setCell ⟨N, 1, none⟩ (.int .i64 x.2)) ∧ OwnStep w.heap.size (.slice (some ⟨b, 0, none⟩) l.length cap) v') :=
        ⟨_, by rw [HDR.out]; exact h6.1, h6.2, .inl HOV.out⟩
      clear hr hg hov h1 h2 h3 h6
      go_wp2_with fail
      exact bodyPost_ret (v := .tuple #[.agg #[.int .i64 x.1, .int .i64 x.2], .bool true]) (by simp [results, Try.results38, go_sem, r0, r1]) rfl ⟨by rw [HO.out]; rfl, by have := HF.out; simpa [hN] using this⟩

end Go.Proofs.Ytjlklkaaonfpdaa
