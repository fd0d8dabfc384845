/-
  Fill: the walk.
-/
import Derived.Test.YtehmeccjgjhidaaDoorStockR
namespace Go.Proofs.YtehmeccjgjhidaaDoor
open Go.RowKit Go.Maps Go.Sort Go.Shelf
attribute [local go_sem] Oper.semAt_some
theorem three_box (w : World) (a b c : Obj) : (((w.alloc a).alloc b).alloc c).heap[w.heap.size]? = some a ∧ (((w.alloc a).alloc b).alloc c).heap[w.heap.size + 1]? = some b ∧ (((w.alloc a).alloc b).alloc c).heap[w.heap.size + 1 + 1]? = some c ∧ Below w.heap.size w (((w.alloc a).alloc b).alloc c) ∧ (((w.alloc a).alloc b).alloc c).heap.size = w.heap.size + 1 + 1 + 1 := by
  have h1 := heap_new w a
  have h2 := heap_new (w.alloc a) b
  have h3 := heap_new ((w.alloc a).alloc b) c
  have b1 := box1 w a
  have b2 := box1 (w.alloc a) b
  have b3 := box1 ((w.alloc a).alloc b) c
  have s1 : (w.alloc a).heap.size = w.heap.size + 1 := by simp
  have s2 : ((w.alloc a).alloc b).heap.size = w.heap.size + 1 + 1 := by simp
  rw [s1] at h2
  rw [s2] at h3
  exact ⟨(b3.block _ (by omega)).trans ((b2.block _ (by omega)).trans h1), (b3.block _ (by omega)).trans h2, h3, b1.trans ((b2.mono (by omega)).trans (b3.mono (by omega))), by simp⟩
set_option maxRecDepth 100000 in
set_option maxHeartbeats 4000000 in
theorem fill_in (sb clb pb : Nat) (W S B T : Int) (len : Nat) (f : Nat → Int) (n : Nat) (P : Nat → List (Int × Int)) (L : Nat → Value) (M : Nat → Nat) (k : Nat) (s : Int) (m : Nat) (w : World) (h : Hid (Stk w sb clb pb W S B T len f n P L M)) (hT : Hid (TabAt w)) (hk : k < len) (ok : Hid (ClsOk len f)) (s0 : 0 ≤ S) (s1 : S ≤ 1000) (hm : m < 18446744073709551616) (hs : (Lit.int .i64 s).wf = true) (hn : n < 1048000) :
    Calls Tryd.prog 12 #[.pointer (some ⟨sb, 0, none⟩), .int .i64 (k : Nat), .int .i64 s, .int .u64 (m : Nat)] w fun e w' => (∃ v, e = .returned v) ∧ ∃ n' v', n' ≤ n + 64 ∧ Stk w' sb clb pb W S B T len f n' (updP P k (fillL S len f k (P k) (bksOf s (bkw (fun j => (Ma.mem m).getD j 0) (Ma.mem m).length (Ma.mem m).length)))) (updL L k v') M ∧ Only ([pb, M k] ++ (L k).ownBlock.toList) w w' ∧ (v'.ownBlock = (L k).ownBlock ∨ ∃ b, v'.ownBlock = some b ∧ w.heap.size ≤ b) := by
  refine (callsIn_wide (n := 4)).1 ?_
  refine callsIn_of_wp_marks Tryd.func12 rfl trivial ?_ rfl
  simp only [Tryd.ntmps12, List.size_toArray, List.length_cons, List.length_nil, Nat.reduceAdd, Nat.reduceSub, Array.replicate_succ, Array.replicate_zero, List.push_toArray, List.append_toArray, List.nil_append, List.cons_append]
  obtain ⟨e1, e2, e3, e4, e5⟩ := three_box w (.cells #[.pointer (some ⟨sb, 0, none⟩)] 28) (.cells #[.int .i64 (k : Nat)] 3) (.cells #[.int .i64 s] 3)
  have X1 := Lib.hid e1
  have X2 := Lib.hid e2
  have X3 := Lib.hid e3
  have X4 := Lib.hid e4
  have X5 := Lib.hid e5
  have T1 := Lib.hid (hT.out.next e4)
  clear e1 e2 e3 e4 e5
  have w1 : Fence.wide.fn 9 := trivial
  have w2 : Fence.wide.fn 27 := trivial
  have w3 : Fence.wide.fn 33 := trivial
  have w4 : Fence.wide.fn 7 := trivial
  have l64 : (Ma.mem m).length ≤ 64 := by rw [Ma.mem_length]; exact Ma.popF_le 64 m
  gi_wp2_with (first | (gi_at_call 9; refine (callsIn_wide.2 (list_any m _ hm T1)).mono ?_; rintro e w5 ⟨v, rfl, ho, hb⟩; obtain ⟨ad, cap, lb, rfl, hlb, hrow⟩ := int_row ho) | (gi_at_call 27; refine (back_in Fence.wide _ trivial rfl _ _ _ _).mono ?_; rintro e w' ⟨rfl, rfl⟩))
  have B5 : Below w.heap.size w w5 := X4.out.trans (hb.mono X4.out.size)
  have bx := box1 w5 (.cells #[.slice ad (Ma.mem m).length cap] 22)
  have BW : Hid (Below w.heap.size w (w5.alloc (.cells #[.slice ad (Ma.mem m).length cap] 22))) := B5.trans (bx.mono B5.size)
  have u1 := (hb.block _ (heap_lt X1.out)).trans X1.out
  have u2 := (hb.block _ (heap_lt X2.out)).trans X2.out
  have u3 := (hb.block _ (heap_lt X3.out)).trans X3.out
  have Y1 := Lib.hid ((bx.block _ (heap_lt u1)).trans u1)
  have Y2 := Lib.hid ((bx.block _ (heap_lt u2)).trans u2)
  have Y3 := Lib.hid ((bx.block _ (heap_lt u3)).trans u3)
  have Y4 := Lib.hid (heap_new w5 (.cells #[.slice ad (Ma.mem m).length cap] 22))
  have sz := heap_lt Y4.out
  have hlb2 : lb < (w5.alloc (.cells #[.slice ad (Ma.mem m).length cap] 22)).heap.size := by rcases hlb with h | h <;> omega
  have hrow2 : 0 < (Ma.mem m).length → ad = some ⟨lb, 0, none⟩ ∧ ∃ cur, (w5.alloc (.cells #[.slice ad (Ma.mem m).length cap] 22)).heap[lb]? = some (.cells cur 3 (0, 0)) ∧ ∀ j, j < (Ma.mem m).length → cur[j]? = some (.int .i64 (((Ma.mem m).getD j 0 : Nat) : Int)) := fun hp => by
    obtain ⟨a1, _, cur, a2, a3⟩ := hrow hp
    exact ⟨a1, cur, (bx.block _ (heap_lt a2)).trans a2, a3⟩
  have hfar : Hid (0 < (Ma.mem m).length → w.heap.size + 1 + 1 < lb) := Lib.hid (fun hp => by obtain ⟨_, h2, _⟩ := hrow hp; have := X5.out; omega)
  have hQf : Hid (w.heap.size + 1 + 1 < w5.heap.size) := Lib.hid (heap_lt u3)
  clear hrow hlb ho hb bx u1 u2 u3 B5 X1 X2 X3 X4 X5 T1
  generalize w5.alloc (.cells #[.slice ad (Ma.mem m).length cap] 22) = wz at *
  generalize w5.heap.size = Q at *
  have hMl : ∀ j, j < len → M j < w.heap.size := fun j hj => (h.out.set j hj).lt
  have s3 := heap_lt Y3.out
  have hz64 : ∀ j, (Ma.mem m).getD j 0 < 64 := fun j => by
    rw [List.getD_eq_getElem?_getD]
    cases e : (Ma.mem m)[j]? with
    | none => simp
    | some x => have := List.mem_of_getElem? e; simp [Ma.mem] at this; simp; omega
  have hI : OwnFrom wz.heap.size (FI w wz sb clb pb W S B T len f n P L M k s w.heap.size Q lb (Ma.mem m).length) := FI.own BW.out.size (by omega) sz (fun _ => hlb2) hMl
  have hI0 : FI w wz sb clb pb W S B T len f n P L M k s w.heap.size Q lb (Ma.mem m).length [] wz := ⟨⟨n, L k, by simp, by rw [updL_same]; show Stk wz sb clb pb W S B T len f n (updP P k (P k)) L M; rw [updP_same]; exact h.out.next BW.out, .inl rfl⟩, Only.of_below BW.out, rfl, rfl, rfl, rfl, fun _ => rfl, Nat.le_refl _⟩
  refine wpIn_rangeFunc_ownG rfl (by omega) (gf := 33) (lb := #[.pointer (some ⟨Q, 0, none⟩)]) rfl w3 (enters_of Tryd.func33 (by kernel_rfl) rfl)
    (back_stops Fence.wide 3 w3 rfl (by omega) Q lb (Ma.mem m).length cap ad (fun j => (Ma.mem m).getD j 0) hz64 (by omega) wz Y4.out hlb2 hrow2) kpQ_t
    (fun X l o o' hl hX _ _ => ⟨World.putObj_heap_other (by omega), World.putObj_heap_other (by omega)⟩) (Below.refl _ _) (fun _ => rfl)
    (FI w wz sb clb pb W S B T len f n P L M k s w.heap.size Q lb (Ma.mem m).length) (fun _ _ _ => False) hI (fun _ _ _ _ _ hs _ _ => hs) hI0
    (fun x => { tmps := #[.pointer (some ⟨sb, 0, none⟩), .int .i64 (k : Nat), .int .i64 s, .int .u64 (m : Nat), .pointer (some ⟨w.heap.size, 0, none⟩), .pointer (some ⟨w.heap.size + 1, 0, none⟩), .pointer (some ⟨w.heap.size + 1 + 1, 0, none⟩), undef, undef, .int .i64 ((x.2 % 64 : Nat) : Int), .int .u64 (m : Nat), .slice ad (Ma.mem m).length cap, .func (.func 33) #[] #[.pointer (some ⟨Q, 0, none⟩)], .int .i64 (x.1 : Int), .int .i64 ((x.2 % 64 : Nat) : Int), undef, undef, undef, undef, undef, undef], defers := [] }) ?assign ?body ?done ?stop
  case assign =>
    intro l x X K hK
    gi_wp2
    exact hK
  case body =>
    rintro l pre x X hX hlt
    obtain ⟨n', v', q1, q2, q3⟩ := hX.st
    have c0 : X.cell? ⟨w.heap.size, 0, none⟩ = some (.pointer (some ⟨sb, 0, none⟩)) := by rw [cell_of (hX.h0.trans Y1.out)]; rfl
    have c1 : X.cell? ⟨w.heap.size + 1, 0, none⟩ = some (.int .i64 (k : Nat)) := by rw [cell_of (hX.h1.trans Y2.out)]; rfl
    have c2 : X.cell? ⟨w.heap.size + 1 + 1, 0, none⟩ = some (.int .i64 s) := by rw [cell_of (hX.h2.trans Y3.out)]; rfl
    have hr : x.2 % 64 < 64 := Nat.mod_lt _ (by omega)
    have hbd : Bd (s, ((x.2 % 64 : Nat) : Int)) := ⟨hs, by generalize x.2 % 64 = r at hr; simp [Lit.wf, show IntKind.i64.min = -9223372036854775808 from rfl, show IntKind.i64.max = 9223372036854775807 from rfl]; omega⟩
    have PU := Lib.hid (push_any sb clb pb W S B T len f n' (updP P k (fillL S len f k (P k) (bksOf s pre))) (updL L k v') M k (s, ((x.2 % 64 : Nat) : Int)) X (Lib.hid q2) hk ok s0 s1 hbd (by omega))
    gi_wp2_with (gi_at_call 7; refine (CallsIn.inRound l (callsIn_wide.2 PU.out)).mono ?_; rintro e X2 ⟨rfl, v2, r1, r2, r3⟩)
    have e1 : updL L k v' k = v' := by simp [updL]
    have e2 : ∀ F, updP P k F k = F := fun F => by simp [updP]
    have e3 : ∀ F G, updP (updP P k F) k G = updP P k G := fun F G => by funext j; by_cases a : j = k <;> simp [updP, a]
    have e4 : ∀ v, updL (updL L k v') k v = updL L k v := fun v => by funext j; by_cases a : j = k <;> simp [updL, a]
    rw [e2, e3, e4] at r1
    rw [e1] at r2 r3
    have own2 : ∀ b, v'.ownBlock = some b → ∃ cur, X.heap[b]? = some (.cells cur 32 (0, 0)) := fun b hb => (q2.lst k hk).obj (by rw [e1]; exact hb)
    have lp := heap_lt h.out.pil
    have lM := hMl k hk
    have ni : ∀ b c t, w.heap.size ≤ b → X.heap[b]? = some (.cells c t (0, 0)) → t ≠ 32 → X2.heap[b]? = X.heap[b]? := fun b c t hb hc ht => r2.block b (heap_lt hc) (fun hm => by
      simp at hm
      rcases hm with h1 | h1 | h1
      · omega
      · omega
      · obtain ⟨cur, hcur⟩ := own2 b h1
        rw [hc] at hcur
        simp at hcur
        exact ht hcur.2)
    have hp : 0 < (Ma.mem m).length := by omega
    have n0 := ni _ _ _ (Nat.le_refl _) (hX.h0.trans Y1.out) (by decide)
    have n1 := ni _ _ _ (by omega) (hX.h1.trans Y2.out) (by decide)
    have n2 := ni _ _ _ (by omega) (hX.h2.trans Y3.out) (by decide)
    have n3 := ni _ _ _ (by have := hQf.out; omega) (hX.h3.trans Y4.out) (by decide)
    obtain ⟨_, cl, hcl, _⟩ := hrow2 hp
    have n4 := ni _ _ _ (by have := hfar.out hp; omega) ((hX.h4 hp).trans hcl) (by decide)
    have zz := hX.sz
    have zw := BW.out.size
    refine ⟨⟨r2.size, fun b o hB hb ho => (r2.block b (heap_lt hb) (fun hm => ?_)).trans hb⟩, ⟨n3, n4⟩, ⟨⟨n' + 1, v2, by simp; omega, by rw [bksOf_app, fillL_app]; exact r1, ?_⟩, hX.on.trans' r2 (fun b hb => ?_), n0.trans hX.h0, n1.trans hX.h1, n2.trans hX.h2, n3.trans hX.h3, fun _ => n4.trans (hX.h4 hp), by have := r2.size; omega⟩⟩
    · simp at hm
      rcases hm with h1 | h1 | h1
      · omega
      · omega
      · obtain ⟨cur, hcur⟩ := own2 b h1
        rw [hb] at hcur
        cases hcur
        simp [Obj.isCells] at ho
    · rcases r3 with h1 | ⟨b, h1, h2⟩
      · rw [h1]; exact q3
      · exact .inr ⟨b, h1, by omega⟩
    · simp at hb ⊢
      rcases hb with h1 | h1 | h1
      · exact .inl (.inl h1)
      · exact .inl (.inr (.inl h1))
      · rcases q3 with h2 | ⟨b2, h2, h3⟩
        · rw [h2] at h1; exact .inl (.inr (.inr h1))
        · rw [h2] at h1; cases h1; exact .inr h3
  case done =>
    rintro D ys X hD rfl hX hK
    have hp := hI.putObj (.deferred none) hX hD hK rfl
    gi_wp2
    refine ⟨by simp, .inl ⟨_, _, rfl, run_takeDeferred hK, ?_⟩⟩
    obtain ⟨n', v', q1, q2, q3⟩ := hp.st
    exact ⟨_, results_none rfl _ _ _, ⟨_, rfl⟩, n', v', by rw [bkw_len] at q1; omega, q2, hp.on, q3⟩
  case stop =>
    rintro D c pre X _ _ h _
    exact h.elim
end Go.Proofs.YtehmeccjgjhidaaDoor
