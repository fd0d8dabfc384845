/-
  Contracts of slices.Insert and slices.Delete at intervals.
-/
import Derived.Test.YtjlklkaaonfpdaaSpan3
import Derived.Shelf.Spec.SlicesInsertGrow
import Derived.Deep.AppendLies
import Derived.Deep.RegionLaw
namespace Go.Proofs.Ytjlklkaaonfpdaa
open Go.RowKit Go.Sort

theorem infoI : ∃ i, Try.prog.info? 56 = some i ∧ i.size = 2 ∧ i.zero = some (.agg #[.int .i64 0, .int .i64 0]) ∧ i.bytes = 16 := ⟨(Try.prog.info? 56).get (by kernel_rfl), by kernel_rfl, by kernel_rfl, by kernel_rfl, by kernel_rfl⟩

theorem setRow_at {w : World} {g : Nat} {cur : Array Value} {t : TypeId} (h : w.heap[g]? = some (.cells cur t (0, 0))) (new : Array Value) : (w.setRow g new).heap[g]? = some (.cells new t (0, 0)) := setRow_heap w g cur new t (0, 0) h
theorem setRow_grown {w : World} {g : Nat} (new : Array Value) : w.grownBy (w.setRow g new) (some g) :=
  ⟨rfl, rfl, rfl, by simp [World.setRow], fun k _ hne => by simp only [World.setRow, Array.getElem?_modify]; rw [if_neg (fun h => hne (by rw [h]))]⟩
theorem grown_trans {a b c : World} {r : Option Nat} (h : a.grownBy b r) (k : b.grownBy c r) : a.grownBy c r :=
  ⟨k.os.trans h.os, k.tape.trans h.tape, k.output.trans h.output, Nat.le_trans h.size k.size, fun i hi hr => (k.block i (Nat.lt_of_lt_of_le hi h.size) hr).trans (h.block i hi hr)⟩
theorem grown_drew {a b : World} {r : Option Nat} (h : a.grownBy b r) : a.grownBy b.drew r := ⟨h.os, h.tape, h.output, h.size, h.block⟩
theorem drop_of_take {α : Type} {c d : List α} {n i : Nat} (h : c.take n = d) (hi : i ≤ n) : c.take i = d.take i := by rw [← h, List.take_take, Nat.min_eq_left hi]

/-- What the shift leaves. -/
theorem shift_row {C : List Value} {l : List Iv} {cap i : Nat} {x : Iv} (hs : C.length = cap * 2) (hc : C.take (l.length * 2) = ivs l) (hi : i < l.length) (hr : l.length + 1 ≤ cap) :
    ((C.take ((i + 1) * 2) ++ ivs (l.drop i) ++ C.drop ((i + 1) * 2 + (ivs (l.drop i)).length)).take (i * 2) ++ ivs [x] ++ (C.take ((i + 1) * 2) ++ ivs (l.drop i) ++ C.drop ((i + 1) * 2 + (ivs (l.drop i)).length)).drop (i * 2 + (ivs [x]).length)).length = cap * 2 ∧
    ((C.take ((i + 1) * 2) ++ ivs (l.drop i) ++ C.drop ((i + 1) * 2 + (ivs (l.drop i)).length)).take (i * 2) ++ ivs [x] ++ (C.take ((i + 1) * 2) ++ ivs (l.drop i) ++ C.drop ((i + 1) * 2 + (ivs (l.drop i)).length)).drop (i * 2 + (ivs [x]).length)).take ((l.take i ++ x :: l.drop i).length * 2) = ivs (l.take i ++ x :: l.drop i) := by
  have e1 : (ivs (l.drop i)).length = (l.length - i) * 2 := by rw [ivs_len]; simp
  have e2 : (ivs [x]).length = 2 := rfl
  have e3 : (C.take ((i + 1) * 2)).length = (i + 1) * 2 := by rw [List.length_take]; omega
  have e4 : (C.take ((i + 1) * 2) ++ ivs (l.drop i) ++ C.drop ((i + 1) * 2 + (ivs (l.drop i)).length)).take (i * 2) = ivs (l.take i) := by
    rw [List.append_assoc, List.take_append_of_le_length (by omega), List.take_take, Nat.min_eq_left (by omega), drop_of_take hc (by omega), ivs_take]
  have e5 : (C.take ((i + 1) * 2) ++ ivs (l.drop i) ++ C.drop ((i + 1) * 2 + (ivs (l.drop i)).length)).drop (i * 2 + 2) = ivs (l.drop i) ++ C.drop ((i + 1) * 2 + (ivs (l.drop i)).length) := by
    rw [List.append_assoc, List.drop_append, e3, show i * 2 + 2 = (i + 1) * 2 from by omega, List.drop_of_length_le (by omega), Nat.sub_self, List.drop_zero, List.nil_append]
  rw [e4, e2, e5]
  refine ⟨?_, ?_⟩
  · simp only [List.length_append, e1, e2, List.length_drop, ivs_len, List.length_take]; omega
  · rw [show l.take i ++ x :: l.drop i = (l.take i ++ [x]) ++ l.drop i from by simp, ivs_app, ivs_app, ← List.append_assoc, List.take_left' (by simp only [List.length_append, ivs_len, e1, e2, List.length_cons, List.length_nil, List.length_take, List.length_drop]; omega)]

set_option maxHeartbeats 2000000 in
set_option maxRecDepth 100000 in
theorem insert_shift (x : Iv) (l : List Iv) (i b cap vb : Nat) (cur : Array Value) (w : World) (hB : Hid (IvBlk w b cap l cur)) (hi : i < l.length) (hroom : l.length + 1 ≤ cap) (few : l.length ≤ 100000)
    (hv : Hid (w.heap[vb]? = some (.cells #[.int .i64 x.1, .int .i64 x.2] 56 (0, 0)))) (hne : vb ≠ b) :
    Calls Try.prog 51 #[.slice (some ⟨b, 0, none⟩) l.length cap, .int .i64 i, .slice (some ⟨vb, 0, none⟩) 1 1] w fun e w' =>
      ∃ v', e = .returned v' ∧ IvRow w' v' (l.take i ++ x :: l.drop i) ∧ w.grownBy w' (some b) ∧ v'.ownBlock = some b := by
  obtain ⟨inf, hq, hsz, _, _⟩ := infoI
  have hcap : cap ≤ 9223372036854775807 := by have := hB.out.big; unfold maxLen at this; omega
  have hz2 : ((i : Int) == (l.length : Int)) = false := by simp; omega
  have hz2' : (i == l.length) = false := by simp; omega
  have hw1 : IntKind.i64.wrap ((i : Int) + 1) = (i : Int) + 1 := by rw [IntKind.wrap_i64]; omega
  have hb1 : (0 : Int) ≤ (i : Int) + 1 := by omega
  have hin : i ≤ l.length := by omega
  have htn : ((i : Int) + 1).toNat = i + 1 := by omega
  have hb2 : ¬ (cap = i + 1) := by omega
  have hb3 : (i : Int) ≤ (l.length : Int) + 1 := by omega
  have hb4 : ¬ (cap = i) := by omega
  have hb5 : decide ((cap : Int) < (l.length : Int) + 1) = false := by simp; omega
  have hov : ∀ lb cb, (callFunc 59 #[.slice (some ⟨vb, 0, none⟩) 1 1, .slice (some ⟨b, (i + 1) * 2, none⟩) lb cb]).run Try.prog w = .ok (.value (.bool false)) w := fun lb cb => by
    rw [run_callFunc_extern Try.func59 (by kernel_rfl) (by kernel_rfl) (by kernel_rfl) (e := Extern.SlicesOverlaps.overlaps #[52, 52] #[4]) (by kernel_rfl),
      Lib.run_overlaps_apart w 52 4 56 Try.underlying52 2 Try.sizeOf56 ⟨vb, 0, none⟩ ⟨b, (i + 1) * 2, none⟩ 1 1 lb cb hne 56 56 2 (cap * 2) (by simp [World.shape?, hv.out]) (by simp [World.shape?, hB.out.at_, hB.out.size]) (by omega) (by simp [World.frozen?, hv.out]) (by simp [World.frozen?, hv.out])]
    rfl
  have hn1 : (ivs (l.drop i)).length = (l.length - i) * 2 := by rw [ivs_len]; simp
  obtain ⟨C1, hC1⟩ : ∃ C1 : Array Value, C1 = (cur.toList.take ((i + 1) * 2) ++ ivs (l.drop i) ++ cur.toList.drop ((i + 1) * 2 + (ivs (l.drop i)).length)).toArray := ⟨_, rfl⟩
  have hcp1 : ∀ ty dc sc, (Builtin.copy_ #[52, 52] ty #[.slice (some ⟨b, (i + 1) * 2, none⟩) (l.length - i) dc, .slice (some ⟨b, i * 2, none⟩) (l.length + 1 - i) sc]).run Try.prog w.drew = .ok (goInt (Nat.min (l.length + 1 - i) (l.length - i))) (w.drew.setRow b C1) := fun ty dc sc => by
    rw [hC1]
    refine run_copy_rowK w.drew _ _ ty 56 b ((i + 1) * 2) _ dc ⟨b, i * 2, none⟩ _ sc cur 56 (ivs (l.drop i)) inf Try.underlying52 hq hB.out.at_ ?_ ?_ ?_ (ivs_one _)
    · rw [hn1, hsz]; simp only [Nat.min_def]; split <;> omega
    · intro j u hj
      rw [Addr.add_lit]
      exact hB.out.cell (by rw [← ivs_drop, List.getElem?_drop] at hj; exact hj)
    · rw [hn1, hB.out.size]; omega
  have hC1s : C1.size = cap * 2 := by
    rw [hC1]; simp only [List.size_toArray, List.length_append, hn1, List.length_take, List.length_drop, Array.length_toList, hB.out.size]; omega
  have hW1 : (w.drew.setRow b C1).heap[b]? = some (.cells C1 56 (0, 0)) := setRow_at (w := w.drew) hB.out.at_ C1
  have hV1 : (w.drew.setRow b C1).heap[vb]? = some (.cells #[.int .i64 x.1, .int .i64 x.2] 56 (0, 0)) := ((setRow_grown (w := w.drew) (g := b) C1).block vb (Array.getElem?_eq_some_iff.1 hv.out).1 (by simp [hne])).trans hv.out
  obtain ⟨C2, hC2⟩ : ∃ C2 : Array Value, C2 = (C1.toList.take (i * 2) ++ ivs [x] ++ C1.toList.drop (i * 2 + (ivs [x]).length)).toArray := ⟨_, rfl⟩
  have hcp2 : ∀ ty dc, (Builtin.copy_ #[52, 52] ty #[.slice (some ⟨b, i * 2, none⟩) (l.length + 1 - i) dc, .slice (some ⟨vb, 0, none⟩) 1 1]).run Try.prog (w.drew.setRow b C1) = .ok (goInt (Nat.min 1 (l.length + 1 - i))) ((w.drew.setRow b C1).setRow b C2) := fun ty dc => by
    rw [hC2]
    refine run_copy_rowK _ _ _ ty 56 b (i * 2) _ dc ⟨vb, 0, none⟩ _ 1 C1 56 (ivs [x]) inf Try.underlying52 hq hW1 ?_ ?_ ?_ (ivs_one _)
    · rw [hsz]; simp only [Nat.min_def]; rw [if_pos (by omega)]; rfl
    · intro j u hj
      rw [Addr.add_lit, Nat.zero_add]
      have hjl : j < 2 := (List.getElem?_eq_some_iff.1 hj).1
      rcases (by omega : j = 0 ∨ j = 1) with rfl | rfl
      · simp [World.cell?, hV1]; simpa [ivs] using hj
      · simp [World.cell?, hV1]; simpa [ivs] using hj
    · rw [hC1s]; show i * 2 + 2 ≤ _; omega
  have hfin : Hid (IvBlk ((w.drew.setRow b C1).setRow b C2) b cap (l.take i ++ x :: l.drop i) C2) := by
    obtain ⟨f1, f2⟩ := shift_row (x := x) (show cur.toList.length = cap * 2 by simpa using hB.out.size) hB.out.cells hi hroom
    refine ⟨setRow_at hW1 C2, by simp; omega, hB.out.big, ?_, ?_⟩
    · rw [hC2, hC1]; simpa using f1
    · rw [hC2, hC1]; simpa using f2
  have hgr : Hid (w.grownBy ((w.drew.setRow b C1).setRow b C2) (some b)) := grown_trans (grown_trans (grown_drew ⟨rfl, rfl, rfl, Nat.le_refl _, fun _ _ _ => rfl⟩) (setRow_grown C1)) (setRow_grown C2)
  have hlen : Hid ((l.take i ++ x :: l.drop i).length = l.length + 1) := by show _ = _; simp; omega
  clear hC1 hC2 hC1s hW1 hV1 hn1 hB hv
  generalize w.drew.setRow b C1 = W1 at *
  generalize W1.setRow b C2 = W2 at *
  go_enter Try.func51, Try.ntmps51
  go_wp2_with (simp only [hov])
  go_region_law (refine step_copy_runI rfl _ _ 52 52 rfl _ _ (by simp [Act.eval, Act.put]) (by simp [Act.eval, Act.put]) (hcp1 _ _ _) ?_)
  go_wp2_with (at_builtin; refine wpList_copy_runI _ rfl _ _ 52 52 rfl _ _ rfl rfl (hcp2 _ _) ?_)
  go_ret
  exact ⟨_, rfl, by have := hfin.out.row; rw [hlen.out] at this; exact this, hgr.out, rfl⟩

end Go.Proofs.Ytjlklkaaonfpdaa
