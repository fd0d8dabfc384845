/-
  Contract of slices.Delete at intervals: one goes.
-/
import Derived.Test.YtjlklkaaonfpdaaSpan5
import Derived.ArgAppend
namespace Go.Proofs.Ytjlklkaaonfpdaa
open Go.RowKit Go.Sort

theorem step_append_eq {P : Program} {ops : Array Oper} {o : Oper} {a : Act} {w : World} {K : Act → World → Prop} {Q : Exit → Act → World → Prop} {E : Prop}
    (hg : o.guard = none) (d x : Operand) (dT sT : TypeId) (hop : o.op = Op.call { callee := Callee.builtin Builtin.append, args := #[d, x], argTypes := #[dT, sT] })
    (v u : Value) (hd : a.eval d = v) (hx : a.eval x = u) {v' : Value} {w' : World} (hr : (Builtin.append_ #[dT, sT] o.type #[v, u]).run P w = .ok v' w') (hK : K (a.put o.dst v') w') :
    if Region.wanted o (yielded ops a.tmps) = true then Oper.wp P o a w K Q else E := by
  have hw : Region.wanted o (yielded ops a.tmps) = true := by simp [Region.wanted, hg]
  rw [if_pos hw]
  unfold Oper.wp
  simp [execOp, hop, resolve, invoke, builtin, hd, hx, hr, Result.andThen]
  exact hK

theorem wpList_clear_eq {P : Program} {w : World} {ops : Array Oper} {rest : List Oper} {o : Oper} {a : Act} {Q : Exit → Act → World → Prop}
    (hg : o.guard = none) (d : Operand) (dT : TypeId) (hop : o.op = Op.call { callee := Callee.builtin Builtin.clear, args := #[d], argTypes := #[dT] })
    (v : Value) (hd : a.eval d = v) {v' : Value} {w' : World} (hr : (Builtin.clear_ #[dT] o.type #[v]).run P w = .ok v' w') (hK : wpList P ops Q rest (a.put o.dst v') w') : wpList P ops Q (o :: rest) a w :=
  wpList_plain hg fun K hK' => by
    unfold Oper.wp
    simp [execOp, hop, resolve, invoke, builtin, hd, hr, Result.andThen]
    exact hK' _ _ hK

/-- What the deletion leaves. -/
theorem del_row {C : List Value} {l : List Iv} {cap i L : Nat} (hs : C.length = cap * 2) (hc : C.take (l.length * 2) = ivs l) (hi : i < l.length) (hL : l.length = L + 1) (hr : l.length ≤ cap) (zs : List Value) (hz : zs.length = 2) :
    (C.take (i * 2) ++ ivs (l.drop (i + 1)) ++ C.drop (i * 2 + (ivs (l.drop (i + 1))).length)).length = cap * 2 ∧
    ((C.take (i * 2) ++ ivs (l.drop (i + 1)) ++ C.drop (i * 2 + (ivs (l.drop (i + 1))).length)).take (L * 2) ++ zs ++ (C.take (i * 2) ++ ivs (l.drop (i + 1)) ++ C.drop (i * 2 + (ivs (l.drop (i + 1))).length)).drop (L * 2 + zs.length)).length = cap * 2 ∧
    ((C.take (i * 2) ++ ivs (l.drop (i + 1)) ++ C.drop (i * 2 + (ivs (l.drop (i + 1))).length)).take (L * 2) ++ zs ++ (C.take (i * 2) ++ ivs (l.drop (i + 1)) ++ C.drop (i * 2 + (ivs (l.drop (i + 1))).length)).drop (L * 2 + zs.length)).take ((l.take i ++ l.drop (i + 1)).length * 2) = ivs (l.take i ++ l.drop (i + 1)) := by
  have e1 : (ivs (l.drop (i + 1))).length = (L - i) * 2 := by rw [ivs_len, List.length_drop]; omega
  have e3 : C.take (i * 2) = ivs (l.take i) := by rw [drop_of_take hc (by omega), ivs_take]
  have e4 : (ivs (l.take i)).length = i * 2 := by rw [ivs_len, List.length_take]; omega
  rw [e3, e1]
  have e5 : (ivs (l.take i) ++ ivs (l.drop (i + 1)) ++ C.drop (i * 2 + (L - i) * 2)).length = cap * 2 := by simp only [List.length_append, e4, e1, List.length_drop, hs]; omega
  have e6 : (ivs (l.take i) ++ ivs (l.drop (i + 1)) ++ C.drop (i * 2 + (L - i) * 2)).take (L * 2) = ivs (l.take i) ++ ivs (l.drop (i + 1)) := List.take_left' (by simp only [List.length_append, e4, e1]; omega)
  have e7 : (l.take i ++ l.drop (i + 1)).length = L := by simp only [List.length_append, List.length_take, List.length_drop]; omega
  refine ⟨e5, ?_, ?_⟩
  · rw [e6, hz]; simp only [List.length_append, e4, e1, hz, List.length_drop, hs]; omega
  · rw [e6, e7, ivs_app, List.append_assoc, List.take_left' (by simp only [List.length_append, e4, e1]; omega)]

set_option maxHeartbeats 4000000 in
set_option maxRecDepth 100000 in
theorem delete_any (l : List Iv) (i b cap : Nat) (cur : Array Value) (w : World) (hB : Hid (IvBlk w b cap l cur)) (hi : i < l.length) (few : l.length ≤ 100000) :
    Calls Try.prog 54 #[.slice (some ⟨b, 0, none⟩) l.length cap, .int .i64 i, .int .i64 ((i : Int) + 1)] w fun e w' =>
      ∃ v', e = .returned v' ∧ IvRow w' v' (l.take i ++ l.drop (i + 1)) ∧ w.grownBy w' (some b) ∧ v'.ownBlock = some b := by
  obtain ⟨inf, hq, hsz, hz, hby⟩ := infoI
  obtain ⟨L, hL⟩ : ∃ L, l.length = L + 1 := ⟨l.length - 1, by omega⟩
  have hlc := hB.out.len
  have hcap : cap ≤ 9223372036854775807 := by have := hB.out.big; unfold maxLen at this; omega
  have hn1 : (ivs (l.drop (i + 1))).length = (L - i) * 2 := by rw [ivs_len, List.length_drop]; omega
  obtain ⟨f0, f1, f2⟩ := del_row (show cur.toList.length = cap * 2 by simpa using hB.out.size) hB.out.cells hi hL hlc [.int .i64 0, .int .i64 0] rfl
  obtain ⟨C1, hC1⟩ : ∃ C1 : Array Value, C1 = (cur.toList.take (i * 2) ++ ivs (l.drop (i + 1)) ++ cur.toList.drop (i * 2 + (ivs (l.drop (i + 1))).length)).toArray := ⟨_, rfl⟩
  have hap : ∀ ty o c, (o = (i + 1) * 2 ∨ L = i) → (Builtin.append_ #[52, 52] ty #[.slice (some ⟨b, 0, none⟩) i cap, .slice (some ⟨b, o, none⟩) (L - i) c]).run Try.prog w.drew = .ok (.slice (some ⟨b, 0, none⟩) L cap) (w.drew.setRow b C1) := fun ty o c ho => by
    have h := run_append_room_cells (P := Try.prog) w.drew 52 ty 56 inf Try.underlying52 hq b 0 i cap ⟨b, o, none⟩ (L - i) c (ivs (l.drop (i + 1))) (by rw [hn1, hsz])
      (fun j u hj => by
        have hjl : j < (L - i) * 2 := by rw [← hn1]; exact (List.getElem?_eq_some_iff.1 hj).1
        rcases ho with rfl | h
        · rw [Addr.add_lit]
          exact hB.out.cell (by rw [← ivs_drop, List.getElem?_drop] at hj; exact hj)
        · omega) (ivs_one _) (by omega)
      (fun j hj => by
        rw [hn1] at hj
        have : j + i * 2 < cur.size := by rw [hB.out.size]; omega
        rw [hsz]
        have e : w.drew.cell? ⟨b, 0 + i * 2 + j, none⟩ = cur[0 + i * 2 + j]? := by show w.cell? ⟨b, 0 + i * 2 + j, none⟩ = _; simp [World.cell?, hB.out.at_]
        rw [e, Array.getElem?_eq_getElem (by omega)]; rfl)
      (fun j _ => by rw [hsz]; exact hB.out.fz _)
    rw [show i + (L - i) = L by omega, hsz, setCells_row b 56 (ivs (l.drop (i + 1))) (0 + i * 2) cur w.drew hB.out.at_ (by rw [hn1, hB.out.size]; omega), Nat.zero_add] at h
    rw [hC1]; exact h
  have hW1 : (w.drew.setRow b C1).heap[b]? = some (.cells C1 56 (0, 0)) := setRow_at (w := w.drew) hB.out.at_ C1
  have hC1s : C1.size = cap * 2 := by rw [hC1, List.size_toArray]; exact f0
  obtain ⟨W1, hW⟩ : ∃ W1, W1 = w.drew.setRow b C1 := ⟨_, rfl⟩
  rw [← hW] at hap hW1
  obtain ⟨C2, hC2⟩ : ∃ C2 : Array Value, C2 = (C1.toList.take (L * 2) ++ [Value.int .i64 0, Value.int .i64 0] ++ C1.toList.drop (L * 2 + [Value.int .i64 0, Value.int .i64 0].length)).toArray := ⟨_, rfl⟩
  have hcl : ∀ ty c, (Builtin.clear_ #[52] ty #[.slice (some ⟨b, L * 2, none⟩) 1 c]).run Try.prog W1 = .ok (.tuple #[]) (W1.setRow b C2) := fun ty c => by
    rw [hC2]
    exact run_clear_row W1 52 56 ty (.agg #[.int .i64 0, .int .i64 0]) Try.underlying52 Try.zeroValue56 b (L * 2) 1 c (by omega) C1 56 hW1 _ (by simp [Builtin.zeroCells, Value.cells]; rfl) (by simp [Value.oneCell']) (by rw [hC1s]; simp; omega)
  obtain ⟨W2, hW2⟩ : ∃ W2, W2 = W1.setRow b C2 := ⟨_, rfl⟩
  rw [← hW2] at hcl
  have hfin : Hid (IvBlk W2 b cap (l.take i ++ l.drop (i + 1)) C2) := by
    refine ⟨by rw [hW2]; exact setRow_at hW1 C2, by simp; omega, hB.out.big, ?_, ?_⟩
    · rw [hC2, hC1]; simpa using f1
    · rw [hC2, hC1]; simpa using f2
  have hgr : Hid (w.grownBy W2 (some b)) := by
    show World.grownBy _ _ _
    rw [hW2, hW]; exact grown_trans (grown_trans (grown_drew ⟨rfl, rfl, rfl, Nat.le_refl _, fun _ _ _ => rfl⟩) (setRow_grown C1)) (setRow_grown C2)
  have hlen : Hid ((l.take i ++ l.drop (i + 1)).length = L) := by show _ = _; simp; omega
  clear hW hW2 hC1 hC2 hC1s hW1 hn1 hB f0 f1 f2
  rw [hL]
  have few' : L ≤ 100000 := by omega
  have hi' : i ≤ L := by omega
  have hlc' : L + 1 ≤ cap := by omega
  clear few hi hlc hL
  have z1 : ((i : Int) == (i : Int) + 1) = false := by simp; omega
  have b1 : (i : Int) + 1 ≤ (L : Int) + 1 := by omega
  have b2 : (L : Int) + 1 ≤ (cap : Int) := by omega
  have t1 : ((i : Int) + 1).toNat = i + 1 := by omega
  have t2 : ((L : Int) + 1).toNat = L + 1 := by omega
  have n1 : ¬ (cap = L) := by omega
  have n2 : ¬ (cap = i) := by omega
  have n3 : i ≤ cap := by omega
  have n4 : (i : Int) ≤ (cap : Int) := by omega
  have n5 : (i : Int) ≤ (i : Int) + 1 := by omega
  have n6 : (i : Int) ≤ (L : Int) + 1 := by omega
  have n7 : i ≤ L + 1 := by omega
  have w1 : (0 : Int) ≤ (i : Int) + 1 := by omega
  have w2 : (0 : Int) ≤ (L : Int) + 1 := by omega
  go_enter Try.func54, Try.ntmps54
  go_wp2
  by_cases hc : cap = i + 1
  · obtain rfl : i = L := by omega
    subst hc
    go_region_law (refine step_append_eq rfl _ _ 52 52 rfl (.slice (some ⟨b, 0, none⟩) i (i + 1)) (.slice (some ⟨b, 0, none⟩) 0 0) (by simp [Act.eval, Act.put]) (by simp [Act.eval, Act.put]) (by have := hap 52 0 0 (.inr rfl); rw [Nat.sub_self] at this; exact this) ?_)
    go_wp2_with (at_builtin; refine wpList_clear_eq rfl _ 52 rfl _ rfl (hcl _ _) ?_)
    go_ret
    exact ⟨_, rfl, by have := hfin.out.row; rw [hlen.out] at this; exact this, hgr.out, rfl⟩
  · go_region_law (refine step_append_eq rfl _ _ 52 52 rfl (.slice (some ⟨b, 0, none⟩) i cap) (.slice (some ⟨b, (i + 1) * 2, none⟩) (L - i) (cap - (i + 1))) (by simp [Act.eval, Act.put]) (by simp [Act.eval, Act.put]) (hap 52 ((i + 1) * 2) (cap - (i + 1)) (.inl rfl)) ?_)
    go_wp2_with (at_builtin; refine wpList_clear_eq rfl _ 52 rfl _ rfl (hcl _ _) ?_)
    go_ret
    exact ⟨_, rfl, by have := hfin.out.row; rw [hlen.out] at this; exact this, hgr.out, rfl⟩

end Go.Proofs.Ytjlklkaaonfpdaa
