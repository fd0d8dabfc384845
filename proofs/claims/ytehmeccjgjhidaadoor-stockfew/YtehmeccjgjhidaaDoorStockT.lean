/-
  Fill of a class that there isn't.
-/
import Derived.Test.YtehmeccjgjhidaaDoorStockS
namespace Go.Proofs.YtehmeccjgjhidaaDoor
open Go.RowKit Go.Maps Go.Sort Go.Shelf
attribute [local go_sem] Oper.semAt_some
/-- What stands in each round of Fill of no class. -/
structure FO (w w2 : World) (sb clb pb : Nat) (W S B T : Int) (len : Nat) (f : Nat → Int) (n : Nat) (P : Nat → List (Int × Int)) (L : Nat → Value) (M : Nat → Nat) (N Q lb len' : Nat) (_pre : List (Nat × Nat)) (X : World) : Prop where
  st : Stk X sb clb pb W S B T len f n P L M
  on : Below w.heap.size w X
  h0 : X.heap[N]? = w2.heap[N]?
  h1 : X.heap[N + 1]? = w2.heap[N + 1]?
  h2 : X.heap[N + 1 + 1]? = w2.heap[N + 1 + 1]?
  h3 : X.heap[Q]? = w2.heap[Q]?
  h4 : 0 < len' → X.heap[lb]? = w2.heap[lb]?
  sz : w2.heap.size ≤ X.heap.size
theorem FO.own {w w2 : World} {sb clb pb : Nat} {W S B T : Int} {len : Nat} {f : Nat → Int} {n : Nat} {P : Nat → List (Int × Int)} {L : Nat → Value} {M : Nat → Nat} {N Q lb len' : Nat} (a : w.heap.size ≤ w2.heap.size) (b0 : N + 1 + 1 < w2.heap.size) (b1 : Q < w2.heap.size) (b2 : 0 < len' → lb < w2.heap.size) (hM : ∀ j, j < len → M j < w.heap.size) :
    OwnFrom w2.heap.size (FO w w2 sb clb pb W S B T len f n P L M N Q lb len') := by
  intro pre X X' row h hg hr
  have o : Only row.toList X X' := Only.of_grown hg (fun b hb => by simp [hb])
  have fr : ∀ b ∈ row.toList, w2.heap.size ≤ b ∧ ∀ u, X.heap[b]? = some u → u.isCells = false := fun b hb => by
    simp at hb
    obtain ⟨h1, u, h2, h3⟩ := hr b hb
    exact ⟨h1, fun u' hu => by rw [h2] at hu; cases hu; exact h3⟩
  have st : ∀ b, b < w2.heap.size → X'.heap[b]? = X.heap[b]? := fun b hb => o.block b (by have := h.sz; omega) (fun hm => by have := (fr b hm).1; omega)
  refine ⟨h.st.far o (fun b hb => (fr b hb).2) (fun j hj hm => by have := (fr _ hm).1; have := hM j hj; omega), h.on.trans (o.below (fun b hb => by have := (fr b hb).1; omega) h.on.size), (st _ (by omega)).trans h.h0, (st _ (by omega)).trans h.h1, (st _ (by omega)).trans h.h2, (st _ b1).trans h.h3, fun hp => (st _ (b2 hp)).trans (h.h4 hp), by have := h.sz; have := o.size; omega⟩
set_option maxRecDepth 100000 in
set_option maxHeartbeats 4000000 in
theorem fill_out (sb clb pb : Nat) (W S B T : Int) (len : Nat) (f : Nat → Int) (n : Nat) (P : Nat → List (Int × Int)) (L : Nat → Value) (M : Nat → Nat) (k : Int) (s : Int) (m : Nat) (w : World) (h : Hid (Stk w sb clb pb W S B T len f n P L M)) (hT : Hid (TabAt w)) (hk : k < 0 ∨ (len : Int) ≤ k) (ok : Hid (ClsOk len f)) (s0 : 0 ≤ S) (s1 : S ≤ 1000) (hm : m < 18446744073709551616) :
    Calls Tryd.prog 12 #[.pointer (some ⟨sb, 0, none⟩), .int .i64 k, .int .i64 s, .int .u64 (m : Nat)] w fun e w' => (∃ v, e = .returned v) ∧ Below w.heap.size w w' := by
  refine (callsIn_wide (n := 4)).1 ?_
  refine callsIn_of_wp_marks Tryd.func12 rfl trivial ?_ rfl
  simp only [Tryd.ntmps12, List.size_toArray, List.length_cons, List.length_nil, Nat.reduceAdd, Nat.reduceSub, Array.replicate_succ, Array.replicate_zero, List.push_toArray, List.append_toArray, List.nil_append, List.cons_append]
  obtain ⟨e1, e2, e3, e4, e5⟩ := three_box w (.cells #[.pointer (some ⟨sb, 0, none⟩)] 28) (.cells #[.int .i64 k] 3) (.cells #[.int .i64 s] 3)
  have X1 := Lib.hid e1
  have X2 := Lib.hid e2
  have X3 := Lib.hid e3
  have X4 := Lib.hid e4
  have X5 := Lib.hid e5
  have T1 := Lib.hid (hT.out.next e4)
  clear e1 e2 e3 e4 e5
  have w1 : Fence.wide.fn 9 := trivial
  have w2 : Fence.wide.fn 27 := trivial
  have w3 : Fence.wide.fn 33 := trivial
  have w4 : Fence.wide.fn 7 := trivial
  have l64 : (Ma.mem m).length ≤ 64 := by rw [Ma.mem_length]; exact Ma.popF_le 64 m
  gi_wp2_with (first | (gi_at_call 9; refine (callsIn_wide.2 (list_any m _ hm T1)).mono ?_; rintro e w5 ⟨v, rfl, ho, hb⟩; obtain ⟨ad, cap, lb, rfl, hlb, hrow⟩ := int_row ho) | (gi_at_call 27; refine (back_in Fence.wide _ trivial rfl _ _ _ _).mono ?_; rintro e w' ⟨rfl, rfl⟩))
  have B5 : Below w.heap.size w w5 := X4.out.trans (hb.mono X4.out.size)
  have bx := box1 w5 (.cells #[.slice ad (Ma.mem m).length cap] 22)
  have BW : Hid (Below w.heap.size w (w5.alloc (.cells #[.slice ad (Ma.mem m).length cap] 22))) := B5.trans (bx.mono B5.size)
  have u1 := (hb.block _ (heap_lt X1.out)).trans X1.out
  have u2 := (hb.block _ (heap_lt X2.out)).trans X2.out
  have u3 := (hb.block _ (heap_lt X3.out)).trans X3.out
  have Y1 := Lib.hid ((bx.block _ (heap_lt u1)).trans u1)
  have Y2 := Lib.hid ((bx.block _ (heap_lt u2)).trans u2)
  have Y3 := Lib.hid ((bx.block _ (heap_lt u3)).trans u3)
  have Y4 := Lib.hid (heap_new w5 (.cells #[.slice ad (Ma.mem m).length cap] 22))
  have sz := heap_lt Y4.out
  have hlb2 : lb < (w5.alloc (.cells #[.slice ad (Ma.mem m).length cap] 22)).heap.size := by rcases hlb with h | h <;> omega
  have hrow2 : 0 < (Ma.mem m).length → ad = some ⟨lb, 0, none⟩ ∧ ∃ cur, (w5.alloc (.cells #[.slice ad (Ma.mem m).length cap] 22)).heap[lb]? = some (.cells cur 3 (0, 0)) ∧ ∀ j, j < (Ma.mem m).length → cur[j]? = some (.int .i64 (((Ma.mem m).getD j 0 : Nat) : Int)) := fun hp => by
    obtain ⟨a1, _, cur, a2, a3⟩ := hrow hp
    exact ⟨a1, cur, (bx.block _ (heap_lt a2)).trans a2, a3⟩
  have hfar : Hid (0 < (Ma.mem m).length → w.heap.size + 1 + 1 < lb) := Lib.hid (fun hp => by obtain ⟨_, h2, _⟩ := hrow hp; have := X5.out; omega)
  have hQf : Hid (w.heap.size + 1 + 1 < w5.heap.size) := Lib.hid (heap_lt u3)
  clear hrow hlb ho hb bx u1 u2 u3 B5 X1 X2 X3 X4 X5 T1
  generalize w5.alloc (.cells #[.slice ad (Ma.mem m).length cap] 22) = wz at *
  generalize w5.heap.size = Q at *
  have hMl : ∀ j, j < len → M j < w.heap.size := fun j hj => (h.out.set j hj).lt
  have s3 := heap_lt Y3.out
  have hz64 : ∀ j, (Ma.mem m).getD j 0 < 64 := fun j => by
    rw [List.getD_eq_getElem?_getD]
    cases e : (Ma.mem m)[j]? with
    | none => simp
    | some x => have := List.mem_of_getElem? e; simp [Ma.mem] at this; simp; omega
  have hI : OwnFrom wz.heap.size (FO w wz sb clb pb W S B T len f n P L M w.heap.size Q lb (Ma.mem m).length) := FO.own BW.out.size (by omega) sz (fun _ => hlb2) hMl
  have hI0 : FO w wz sb clb pb W S B T len f n P L M w.heap.size Q lb (Ma.mem m).length [] wz := ⟨h.out.next BW.out, BW.out, rfl, rfl, rfl, rfl, fun _ => rfl, Nat.le_refl _⟩
  refine wpIn_rangeFunc_ownG rfl (by omega) (gf := 33) (lb := #[.pointer (some ⟨Q, 0, none⟩)]) rfl w3 (enters_of Tryd.func33 (by kernel_rfl) rfl)
    (back_stops Fence.wide 3 w3 rfl (by omega) Q lb (Ma.mem m).length cap ad (fun j => (Ma.mem m).getD j 0) hz64 (by omega) wz Y4.out hlb2 hrow2) kpQ_t
    (fun X l o o' hl hX _ _ => ⟨World.putObj_heap_other (by omega), World.putObj_heap_other (by omega)⟩) (Below.refl _ _) (fun _ => rfl)
    (FO w wz sb clb pb W S B T len f n P L M w.heap.size Q lb (Ma.mem m).length) (fun _ _ _ => False) hI (fun _ _ _ _ _ hs _ _ => hs) hI0
    (fun x => { tmps := #[.pointer (some ⟨sb, 0, none⟩), .int .i64 k, .int .i64 s, .int .u64 (m : Nat), .pointer (some ⟨w.heap.size, 0, none⟩), .pointer (some ⟨w.heap.size + 1, 0, none⟩), .pointer (some ⟨w.heap.size + 1 + 1, 0, none⟩), undef, undef, .int .i64 ((x.2 % 64 : Nat) : Int), .int .u64 (m : Nat), .slice ad (Ma.mem m).length cap, .func (.func 33) #[] #[.pointer (some ⟨Q, 0, none⟩)], .int .i64 (x.1 : Int), .int .i64 ((x.2 % 64 : Nat) : Int), undef, undef, undef, undef, undef, undef], defers := [] }) ?assign ?body ?done ?stop
  case assign =>
    intro l x X K hK
    gi_wp2
    exact hK
  case body =>
    rintro l pre x X hX hlt
    have c0 : X.cell? ⟨w.heap.size, 0, none⟩ = some (.pointer (some ⟨sb, 0, none⟩)) := by rw [cell_of (hX.h0.trans Y1.out)]; rfl
    have c1 : X.cell? ⟨w.heap.size + 1, 0, none⟩ = some (.int .i64 k) := by rw [cell_of (hX.h1.trans Y2.out)]; rfl
    have c2 : X.cell? ⟨w.heap.size + 1 + 1, 0, none⟩ = some (.int .i64 s) := by rw [cell_of (hX.h2.trans Y3.out)]; rfl
    have hr : x.2 % 64 < 64 := Nat.mod_lt _ (by omega)
    have PU := Lib.hid (push_out sb clb pb W S B T len f n P L M k (s, ((x.2 % 64 : Nat) : Int)) X (Lib.hid hX.st) hk ok s0 s1)
    gi_wp2_with (gi_at_call 7; refine (CallsIn.inRound l (callsIn_wide.2 PU.out)).mono ?_; rintro e X2 ⟨rfl, r2⟩)
    have hp : 0 < (Ma.mem m).length := by omega
    have n0 := r2.block _ (heap_lt (hX.h0.trans Y1.out))
    have n1 := r2.block _ (heap_lt (hX.h1.trans Y2.out))
    have n2 := r2.block _ (heap_lt (hX.h2.trans Y3.out))
    have n3 := r2.block _ (heap_lt (hX.h3.trans Y4.out))
    obtain ⟨_, cl, hcl, _⟩ := hrow2 hp
    have n4 := r2.block _ (heap_lt ((hX.h4 hp).trans hcl))
    have zz := hX.sz
    have zw := BW.out.size
    exact ⟨⟨r2.size, fun b o hB hb ho => (r2.block b (heap_lt hb)).trans hb⟩, ⟨n3, n4⟩, ⟨hX.st.next r2, hX.on.trans (r2.mono hX.on.size), n0.trans hX.h0, n1.trans hX.h1, n2.trans hX.h2, n3.trans hX.h3, fun _ => n4.trans (hX.h4 hp), by have := r2.size; omega⟩⟩
  case done =>
    rintro D ys X hD rfl hX hK
    have hp := hI.putObj (.deferred none) hX hD hK rfl
    gi_wp2
    refine ⟨by simp, .inl ⟨_, _, rfl, run_takeDeferred hK, ?_⟩⟩
    exact ⟨_, results_none rfl _ _ _, ⟨_, rfl⟩, hp.on⟩
  case stop =>
    rintro D c pre X _ _ h _
    exact h.elim
end Go.Proofs.YtehmeccjgjhidaaDoor
