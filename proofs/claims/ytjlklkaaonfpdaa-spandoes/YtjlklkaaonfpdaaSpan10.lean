/-
  Contracts of slices.Clone at intervals, and of (*Map).All: a row of its own with the same intervals.
-/
import Derived.Test.YtjlklkaaonfpdaaSpan9
namespace Go.Proofs.Ytjlklkaaonfpdaa
open Go.RowKit Go.Sort

theorem row_of_base {w : World} {B : Nat} {v : Value} {l : List Iv} (h : w.ownsRow B 56 2 v l.length (ivs l)) : IvRow w v l ∧ ∀ k, v.ownBlock = some k → B ≤ k :=
  ⟨⟨h.1, by rcases h.2 with h | ⟨g, cap, cur, h1, _, h3⟩
            · exact .inl h
            · exact .inr ⟨g, cap, cur, h1, Nat.zero_le _, h3⟩⟩, fun k hk => (World.ownsRow.lt h k hk).1⟩

set_option maxHeartbeats 2000000 in
theorem clone_any (l : List Iv) (v : Value) (w : World) (hR : Hid (IvRow w v l)) (few : l.length ≤ 100000) :
    Calls Try.prog 56 #[v] w fun e w' => ∃ v', e = .returned v' ∧ IvRow w' v' l ∧ Below w.heap.size w w' ∧ ∀ k, v'.ownBlock = some k → w.heap.size ≤ k := by
  obtain ⟨inf, hq, hsz, hz, hby⟩ := infoI
  have q22 : ∀ (w : World) (a : Option Addr) (n c n' c' : Nat), (binOp .eql 52 (.slice a n c) (.slice none n' c')).run Try.prog w = .ok (.bool a.isNone) w := fun w a n c n' c' => Lib.run_eql_slice_nil w _ _ a n c n' c' Try.underlying52
  rcases hR.out.cases with ⟨rfl, rfl⟩ | ⟨b, cap, cur, rfl, hB⟩
  · go_enter Try.func56, Try.ntmps56
    go_wp2
    go_ret
    exact ⟨_, rfl, ivRow_nil _, Below.refl _ _, fun k hk => by cases hk⟩
  · have b1 := below_alloc w (.cells #[] 56)
    have HB1 := Lib.hid (hB.next (b1.block b hB.lt))
    have HO := Lib.hid (World.ownsRow_made (base := w.heap.size) (e := 56) (size := 2) w #[] 0 (Nat.le_refl _) (Nat.zero_le _) rfl)
    have B1 := Lib.hid b1
    have H63 : Hid (0 + l.length ≤ maxLen) := by show 0 + l.length ≤ maxLen; unfold maxLen; omega
    have HBY : Hid ((0 + l.length) * 16 ≤ 140737488355328) := by show _ ≤ _; omega
    have HS : Hid (w.heap.size ≤ (w.alloc (.cells #[] 56)).heap.size) := b1.size
    have HN : Hid (∀ j u, (ivs l)[j]? = some u → (w.alloc (.cells #[] 56)).cell? ((⟨b, 0, none⟩ : Addr).add j) = some u) := fun j u hj => by rw [Addr.add_lit, Nat.zero_add]; exact HB1.out.cell hj
    have HLN := Lib.hid (ivs_len l)
    clear b1 hB
    by_cases h0 : l.length = 0
    · have hl0 : l = [] := List.length_eq_zero_iff.1 h0
      subst hl0
      have hap : ∀ ty, (Builtin.append_ #[52, 52] ty #[.slice (some ⟨w.heap.size, 0, none⟩) 0 0, .slice (some ⟨b, 0, none⟩) 0 cap]).run Try.prog (w.alloc (.cells #[] 56)) = .ok (.slice (some ⟨w.heap.size, 0, none⟩) 0 0) (w.alloc (.cells #[] 56)) := fun ty => by
        have h := run_append_room_cells (P := Try.prog) (w.alloc (.cells #[] 56)) 52 ty 56 inf Try.underlying52 hq w.heap.size 0 0 0 ⟨b, 0, none⟩ 0 cap [] (by simp) (fun j u hj => by cases hj) (fun u hu => by cases hu) (Nat.le_refl _) (fun j hj => by cases hj) (fun j hj => by cases hj)
        simpa [World.setCells] using h
      go_enter Try.func56, Try.ntmps56
      go_wp2_with (at_builtin; refine Lib.wpList_append_run _ rfl _ _ _ _ rfl _ _ rfl rfl _ _ (hap _) ?_)
      go_ret
      exact ⟨_, rfl, (row_of_base (l := []) HO.out).1, B1.out, fun k hk => by simp [Value.ownBlock] at hk; omega⟩
    · go_enter Try.func56, Try.ntmps56
      go_wp2_with (at_builtin; refine wpList_append_lies _ rfl _ _ 52 rfl w.heap.size 56 inf _ 2 16 Try.underlying52 hq hz hsz hby rfl (by omega) (.slice (some ⟨w.heap.size, 0, none⟩) 0 0) 0 [] rfl HO.out ⟨b, 0, none⟩ l.length cap (ivs l) rfl HLN.out HN.out (ivs_one _) (by omega) H63.out HBY.out HS.out _ rfl ?_; intro g cap' w1 hown hgrow hat hlt)
      go_ret
      rw [Nat.zero_add, List.nil_append] at hown
      have hh := row_of_base hown
      refine ⟨_, rfl, hh.1, ?_, ?_⟩
      · exact ⟨hgrow.os, hgrow.tape, hgrow.output, Nat.le_trans HS.out hgrow.size, fun k hk => (hgrow.block k (by simp; omega) (by simp [Value.ownBlock]; omega)).trans (B1.out.block k hk)⟩
      · intro k hk
        exact hh.2 k (by rw [← hk]; rfl)

set_option maxHeartbeats 1000000 in
theorem all6_any (g : Nat) (v : Value) (l : List Iv) (w : World) (m : Hid (MapAt w g v l)) :
    Calls Try.prog 43 #[.pointer (some ⟨g, 0, none⟩)] w fun e w' => ∃ v', e = .returned v' ∧ IvRow w' v' l ∧ Below w.heap.size w w' ∧ ∀ k, v'.ownBlock = some k → w.heap.size ≤ k := by
  have few := m.out.few
  go_enter Try.func43, Try.ntmps43
  go_wp2_with fail
  refine (inter_any g v l _ m.out).mono ?_
  rintro e w' ⟨rfl, rfl⟩
  go_wp2_with fail
  refine (clone_any l v _ m.out.row few).mono ?_
  rintro e w2 ⟨v', rfl, h1, h2, h3⟩
  have H : Hid (IvRow w2 v' l ∧ Below w.heap.size w w2 ∧ ∀ k, v'.ownBlock = some k → w.heap.size ≤ k) := ⟨h1, h2, h3⟩
  clear h1 h2 h3
  go_wp2_with fail
  go_ret
  exact ⟨v', rfl, H.out⟩

end Go.Proofs.Ytjlklkaaonfpdaa
