/-
  Contracts of slices.Insert at intervals: at the end, and where there is no room.
-/
import Derived.Test.YtjlklkaaonfpdaaSpan4
namespace Go.Proofs.Ytjlklkaaonfpdaa
open Go.RowKit Go.Sort

theorem news_one {w : World} {vb : Nat} {x : Iv} (hv : w.heap[vb]? = some (.cells #[.int .i64 x.1, .int .i64 x.2] 56 (0, 0))) : ∀ j u, (ivs [x])[j]? = some u → w.cell? ((⟨vb, 0, none⟩ : Addr).add j) = some u :=
  World.news_of_block hv

set_option maxHeartbeats 2000000 in
theorem insert_end (x : Iv) (l : List Iv) (v : Value) (vb : Nat) (w : World) (hR : Hid (IvRow w v l)) (few : l.length ≤ 100000)
    (hv : Hid (w.heap[vb]? = some (.cells #[.int .i64 x.1, .int .i64 x.2] 56 (0, 0)))) :
    Calls Try.prog 51 #[v, .int .i64 l.length, .slice (some ⟨vb, 0, none⟩) 1 1] w fun e w' =>
      ∃ v', e = .returned v' ∧ IvRow w' v' (l ++ [x]) ∧ w.grownBy w' v.ownBlock ∧ (v'.ownBlock = v.ownBlock ∨ v'.ownBlock = some w.heap.size) := by
  obtain ⟨inf, hq, hsz, hz, hby⟩ := infoI
  have HN := Lib.hid (news_one hv.out)
  rcases hR.out.cases with ⟨rfl, rfl⟩ | ⟨b, cap, cur, rfl, hB⟩
  · go_enter Try.func51, Try.ntmps51
    go_wp2_with (at_builtin; refine wpList_append_lies _ rfl _ _ 52 rfl 0 56 inf _ 2 16 Try.underlying52 hq hz hsz hby rfl (by omega) (.slice none 0 0) 0 [] rfl hR.out ⟨vb, 0, none⟩ 1 1 (ivs [x]) rfl rfl HN.out (ivs_one _) (by omega) (by decide) (by decide) (Nat.zero_le _) _ rfl ?_; intro g cap w1 hown hgrow hat hlt)
    go_ret
    refine ⟨_, rfl, hown, hgrow, ?_⟩
    rcases hat with h | h
    · exact .inl h.symm
    · exact .inr (by rw [h]; rfl)
  · have hb1 : l.length ≤ cap := hB.len
    have hb2 : cap ≤ 9223372036854775807 := by have := hB.big; unfold maxLen at this; omega
    have e0 : (l.length == l.length) = true := by simp
    have H63 : Hid (l.length + 1 ≤ maxLen) := by show l.length + 1 ≤ maxLen; unfold maxLen; omega
    have HBY : Hid ((l.length + 1) * 16 ≤ 140737488355328) := by show _ ≤ _; omega
    clear hB
    go_enter Try.func51, Try.ntmps51
    go_wp2_with (at_builtin; refine wpList_append_lies _ rfl _ _ 52 rfl 0 56 inf _ 2 16 Try.underlying52 hq hz hsz hby rfl (by omega) (.slice (some ⟨b, 0, none⟩) l.length cap) l.length (ivs l) rfl hR.out ⟨vb, 0, none⟩ 1 1 (ivs [x]) rfl rfl HN.out (ivs_one _) (by omega) H63.out HBY.out (Nat.zero_le _) _ rfl ?_; intro g cap' w1 hown hgrow hat hlt)
    all_goals
      go_ret
      refine ⟨_, rfl, ?_, hgrow, ?_⟩
      · show World.ownsRow w1 0 56 2 _ (l ++ [x]).length (ivs (l ++ [x]))
        rw [ivs_app, List.length_append]; exact hown
      · rcases hat with h | h
        · exact .inl h.symm
        · exact .inr (by rw [h]; rfl)

theorem grow_row {C : List Value} {l : List Iv} {G i : Nat} {x : Iv} (hs : C.length = G * 2) (hA : C.take (i * 2) = ivs (l.take i)) (hi : i < l.length) (hr : l.length + 1 ≤ G) :
    (C.take (i * 2) ++ ivs [x] ++ C.drop (i * 2 + (ivs [x]).length)).length = G * 2 ∧
    ((C.take (i * 2) ++ ivs [x] ++ C.drop (i * 2 + (ivs [x]).length)).take ((i + 1) * 2) ++ ivs (l.drop i) ++ (C.take (i * 2) ++ ivs [x] ++ C.drop (i * 2 + (ivs [x]).length)).drop ((i + 1) * 2 + (ivs (l.drop i)).length)).length = G * 2 ∧
    ((C.take (i * 2) ++ ivs [x] ++ C.drop (i * 2 + (ivs [x]).length)).take ((i + 1) * 2) ++ ivs (l.drop i) ++ (C.take (i * 2) ++ ivs [x] ++ C.drop (i * 2 + (ivs [x]).length)).drop ((i + 1) * 2 + (ivs (l.drop i)).length)).take ((l.take i ++ x :: l.drop i).length * 2) = ivs (l.take i ++ x :: l.drop i) := by
  have e1 : (ivs (l.drop i)).length = (l.length - i) * 2 := by rw [ivs_len]; simp
  have e2 : (ivs [x]).length = 2 := rfl
  have e3 : (ivs (l.take i)).length = i * 2 := by rw [ivs_len, List.length_take]; omega
  rw [hA, e2]
  have e4 : (ivs (l.take i) ++ ivs [x] ++ C.drop (i * 2 + 2)).length = G * 2 := by simp only [List.length_append, e3, e2, List.length_drop, hs]; omega
  have e5 : (ivs (l.take i) ++ ivs [x] ++ C.drop (i * 2 + 2)).take ((i + 1) * 2) = ivs (l.take i) ++ ivs [x] := List.take_left' (by simp only [List.length_append, e3, e2]; omega)
  refine ⟨e4, ?_, ?_⟩
  · rw [e5]; simp only [List.length_append, e3, e2, e1, List.length_drop, hs]; omega
  · rw [e5, show l.take i ++ x :: l.drop i = (l.take i ++ [x]) ++ l.drop i from by simp, ivs_app, ivs_app, List.take_left' (by simp only [List.length_append, e3, e2, e1, List.length_cons, List.length_nil, List.length_take, List.length_drop]; omega)]

set_option maxHeartbeats 4000000 in
set_option maxRecDepth 100000 in
theorem insert_grow (x : Iv) (l : List Iv) (i b cap vb : Nat) (cur : Array Value) (w : World) (hB : Hid (IvBlk w b cap l cur)) (hi : i < l.length) (hroom : cap < l.length + 1) (few : l.length ≤ 100000)
    (hv : Hid (w.heap[vb]? = some (.cells #[.int .i64 x.1, .int .i64 x.2] 56 (0, 0)))) :
    Calls Try.prog 51 #[.slice (some ⟨b, 0, none⟩) l.length cap, .int .i64 i, .slice (some ⟨vb, 0, none⟩) 1 1] w fun e w' =>
      ∃ v', e = .returned v' ∧ IvRow w' v' (l.take i ++ x :: l.drop i) ∧ w.grownBy w' (some b) ∧ v'.ownBlock = some w.heap.size := by
  obtain ⟨inf, hq, hsz, hz, hby⟩ := infoI
  have hbl := hB.out.lt
  have hcap : cap = l.length := by have := hB.out.len; omega
  subst hcap
  have hkk : (l.length : Int) + 1 - (i : Int) = ((l.length + 1 - i : Nat) : Int) := by omega
  have hik : i + (l.length + 1 - i) = l.length + 1 := by omega
  have hold : (Builtin.firstCells inf.size i (.slice (some ⟨b, 0, none⟩) i l.length)).run Try.prog w.drew = .ok (ivs (l.take i)).toArray w.drew := by
    rw [hsz]
    exact run_firstCells_some w.drew 2 i ⟨b, 0, none⟩ i l.length (ivs (l.take i)) (by rw [ivs_len, List.length_take]; omega) (fun j u hj => by
      rw [Addr.add_lit, Nat.zero_add]
      rw [← ivs_take, List.getElem?_take] at hj
      split at hj
      · exact hB.out.cell hj
      · cases hj)
  have hrz : ∀ ty, (Builtin.append_ #[52, 3] ty #[.slice (some ⟨b, 0, none⟩) i l.length, .int .i64 ((l.length : Int) + 1 - (i : Int))]).run Try.prog w =
      .ok (.slice (some ⟨w.heap.size, 0, none⟩) (l.length + 1) (grownCap w (l.length + 1) l.length 56)) (w.drew.alloc (.cells ((ivs (l.take i)).toArray ++ Builtin.zeroCells (Value.agg #[.int .i64 0, .int .i64 0]).cells (l.length + 1 - i) ++ Builtin.zeroCells (Value.agg #[.int .i64 0, .int .i64 0]).cells (grownCap w (l.length + 1) l.length 56 - (l.length + 1))) 56)) := fun ty => by
    have h := Lib.run_append_grow_zeros w 52 3 ty 56 inf _ .i64 .i64 Try.underlying52 Try.underlying3 hq hz (some ⟨b, 0, none⟩) i l.length (ivs (l.take i)) hold (l.length + 1 - i) (by omega) (by omega) (by omega) (by omega) (by rw [hby]; omega) (by rw [hby, hik]; exact growslice_fits (by omega) (by omega))
    rw [hik] at h
    rw [hkk]
    exact h
  obtain ⟨G, hG⟩ : ∃ G, G = grownCap w (l.length + 1) l.length 56 := ⟨_, rfl⟩
  obtain ⟨C, hC⟩ : ∃ C : Array Value, C = (ivs (l.take i)).toArray ++ Builtin.zeroCells (Value.agg #[.int .i64 0, .int .i64 0]).cells (l.length + 1 - i) ++ Builtin.zeroCells (Value.agg #[.int .i64 0, .int .i64 0]).cells (G - (l.length + 1)) := ⟨_, rfl⟩
  rw [← hG] at hrz
  rw [← hC] at hrz
  have hGn : l.length + 1 ≤ G := by rw [hG]; exact grownCap_ge w _ _ _
  have hGm : Hid (G ≤ maxLen) := by show G ≤ maxLen; rw [hG]; exact grownCap_le_maxLen w (l.length + 1) l.length 56 (by unfold maxLen; omega)
  have hG63 : G ≤ 9223372036854775807 := by have := hGm.out; unfold maxLen at this; omega
  have hCs : C.toList.length = G * 2 := by
    rw [hC]; simp [Builtin.zeroCells, Value.cells, ivs_len]; omega
  have hCA : C.toList.take (i * 2) = ivs (l.take i) := by
    rw [hC]; simp only [Array.toList_append, List.append_assoc]
    exact List.take_left' (by rw [ivs_len, List.length_take]; omega)
  obtain ⟨f0, f1, f2⟩ := grow_row (x := x) hCs hCA hi hGn
  obtain ⟨W1, hW1⟩ : ∃ W1, W1 = w.drew.alloc (.cells C 56) := ⟨_, rfl⟩
  rw [← hW1] at hrz
  have hbW : Below w.heap.size w W1 := by rw [hW1]; exact (below_alloc w (.cells C 56)).drew
  have h1N : W1.heap[w.heap.size]? = some (.cells C 56 (0, 0)) := by rw [hW1]; exact heap_at w.drew (.cells C 56)
  have h1v : W1.heap[vb]? = some (.cells #[.int .i64 x.1, .int .i64 x.2] 56 (0, 0)) := (hbW.block vb (Array.getElem?_eq_some_iff.1 hv.out).1).trans hv.out
  obtain ⟨C2, hC2⟩ : ∃ C2 : Array Value, C2 = (C.toList.take (i * 2) ++ ivs [x] ++ C.toList.drop (i * 2 + (ivs [x]).length)).toArray := ⟨_, rfl⟩
  have hcpA : ∀ ty dc, (Builtin.copy_ #[52, 52] ty #[.slice (some ⟨w.heap.size, i * 2, none⟩) (l.length + 1 - i) dc, .slice (some ⟨vb, 0, none⟩) 1 1]).run Try.prog W1 = .ok (goInt (Nat.min 1 (l.length + 1 - i))) (W1.setRow w.heap.size C2) := fun ty dc => by
    rw [hC2]
    refine run_copy_rowK _ _ _ ty 56 w.heap.size (i * 2) _ dc ⟨vb, 0, none⟩ _ 1 C 56 (ivs [x]) inf Try.underlying52 hq h1N ?_ (news_one h1v) ?_ (ivs_one _)
    · rw [hsz]; simp only [Nat.min_def]; rw [if_pos (by omega)]; rfl
    · rw [← Array.length_toList, hCs]; show i * 2 + 2 ≤ _; omega
  obtain ⟨W2, hW2⟩ : ∃ W2, W2 = W1.setRow w.heap.size C2 := ⟨_, rfl⟩
  rw [← hW2] at hcpA
  have g2 : w.grownBy W2 (some w.heap.size) := by rw [hW2]; exact grown_trans ⟨hbW.os, hbW.tape, hbW.output, hbW.size, fun k hk _ => hbW.block k hk⟩ (setRow_grown C2)
  have h2N : W2.heap[w.heap.size]? = some (.cells C2 56 (0, 0)) := by rw [hW2]; exact setRow_at h1N C2
  have h2b : W2.heap[b]? = w.heap[b]? := g2.block b hbl (by simp; omega)
  have hB2 : IvBlk W2 b l.length l cur := hB.out.next h2b
  have hdl : (ivs (l.drop i)).length = (l.length - i) * 2 := by rw [ivs_len]; simp
  obtain ⟨C3, hC3⟩ : ∃ C3 : Array Value, C3 = (C2.toList.take ((i + 1) * 2) ++ ivs (l.drop i) ++ C2.toList.drop ((i + 1) * 2 + (ivs (l.drop i)).length)).toArray := ⟨_, rfl⟩
  have hcpB : ∀ ty dc sc, (Builtin.copy_ #[52, 52] ty #[.slice (some ⟨w.heap.size, (i + 1) * 2, none⟩) (l.length - i) dc, .slice (some ⟨b, i * 2, none⟩) (l.length - i) sc]).run Try.prog W2.drew = .ok (goInt (Nat.min (l.length - i) (l.length - i))) (W2.drew.setRow w.heap.size C3) := fun ty dc sc => by
    rw [hC3]
    refine run_copy_rowK W2.drew _ _ ty 56 w.heap.size ((i + 1) * 2) _ dc ⟨b, i * 2, none⟩ _ sc C2 56 (ivs (l.drop i)) inf Try.underlying52 hq h2N ?_ ?_ ?_ (ivs_one _)
    · rw [hdl, hsz]; simp only [Nat.min_def]; rw [if_pos (Nat.le_refl _)]
    · intro j u hj
      rw [Addr.add_lit]
      exact hB2.cell (by rw [← ivs_drop, List.getElem?_drop] at hj; exact hj)
    · rw [hdl, hC2, List.size_toArray, f0]; omega
  have hfin : Hid (IvBlk (W2.drew.setRow w.heap.size C3) w.heap.size G (l.take i ++ x :: l.drop i) C3) := by
    refine ⟨setRow_at (w := W2.drew) h2N C3, by simp; omega, hGm.out, ?_, ?_⟩
    · rw [hC3, hC2]; simpa using f1
    · rw [hC3, hC2]; simpa using f2
  have hgr : Hid (w.grownBy (W2.drew.setRow w.heap.size C3) (some b)) := by
    have h := grown_trans (grown_drew g2) (setRow_grown (w := W2.drew) (g := w.heap.size) C3)
    exact ⟨h.os, h.tape, h.output, h.size, fun k hk _ => h.block k hk (by simp; omega)⟩
  have hlen : Hid ((l.take i ++ x :: l.drop i).length = l.length + 1) := by show _ = _; simp; omega
  obtain ⟨W3, hW3⟩ : ∃ W3, W3 = W2.drew.setRow w.heap.size C3 := ⟨_, rfl⟩
  rw [← hW3] at hcpB hfin hgr
  have hz2 : ((i : Int) == (l.length : Int)) = false := by simp; omega
  have hz2' : (i == l.length) = false := by simp; omega
  have hw1 : IntKind.i64.wrap ((i : Int) + 1) = (i : Int) + 1 := by rw [IntKind.wrap_i64]; omega
  have hb1 : (0 : Int) ≤ (i : Int) + 1 := by omega
  have hin : i ≤ l.length := by omega
  have htn : ((i : Int) + 1).toNat = i + 1 := by omega
  have hb3 : (i : Int) ≤ (l.length : Int) := by omega
  have hb4 : ¬ (l.length = i) := by omega
  have hGi : ¬ (G = i) := by omega
  have hGim : ¬ (G = i + 1) := by omega
  have hb5 : decide ((l.length : Int) < (l.length : Int) + 1) = true := by simp; omega
  clear hW1 hW2 hW3 hC hC2 hC3 hCs hCA f0 f1 f2 h1N h1v h2N h2b hB2 hB hdl hold hG g2 hbW hv hkk hik
  go_enter Try.func51, Try.ntmps51
  go_wp2_with (first
    | (at_builtin; refine Lib.wpList_append_run _ rfl _ _ _ _ rfl _ _ rfl rfl _ _ (hrz _) ?_)
    | (at_builtin; refine wpList_copy_runI _ rfl _ _ 52 52 rfl _ _ rfl rfl (hcpA _ _) ?_))
  go_region_law (refine step_copy_runI rfl _ _ 52 52 rfl _ _ (by simp [Act.eval, Act.put]) (by simp [Act.eval, Act.put]) (hcpB _ _ _) ?_)
  go_wp2
  go_ret
  exact ⟨_, rfl, by have := hfin.out.row; rw [hlen.out] at this; exact this, hgr.out, rfl⟩


end Go.Proofs.Ytjlklkaaonfpdaa
