/-
  What the statements of layer 12 say ahead: three blocks, two of which go.
-/
import Derived.Test.YtehmeccjgjhidaaDoorStockDo2
namespace Go.Proofs.YtehmeccjgjhidaaDoor
open Go.RowKit Go.Maps Go.Sort
attribute [local go_sem] Oper.semAt_some

def oneC : Nat → Int := fun _ => 16
theorem oneC_ok : ClsOk 1 oneC := cls_ok (by decide)
def l3 : List (Int × Int) := [(0, 0), (1, 1), (1, 0)]
theorem l3_best : Best l3 2 1 := by
  refine ⟨⟨by decide, .inr (by decide)⟩, fun j h0 h1 => ?_⟩
  rcases (by omega : j = 0 ∨ j = 1) with rfl | rfl
  · exact ⟨by decide, fun h => absurd h (by decide)⟩
  · exact ⟨by decide, fun _ => by decide⟩
theorem l3_full {s : Int} (h : Full l3 s) : s = 1 := best_full h l3_best (by decide) (fun x hx => by
  simp [l3] at hx
  rcases hx with rfl | rfl | rfl <;> simp)
theorem push0 : pushB 2 1 oneC 0 [] (0, 0) = true ∧ pushL 2 1 oneC 0 [] (0, 0) = [(0, 0)] ∧ pushB 2 1 oneC 0 [(0, 0)] (0, 0) = false ∧ pushL 2 1 oneC 0 [(0, 0)] (0, 0) = [(0, 0)] := by
  refine ⟨?_, ?_, ?_, ?_⟩ <;> decide
theorem fill3 : fillL 2 1 oneC 0 [(0, 0)] (bksOf 1 (bkw (fun j => (Ma.mem 3).getD j 0) (Ma.mem 3).length (Ma.mem 3).length)) = l3 := by
  rw [bks_mem]
  decide
theorem upL2 (L : Nat → Value) (k : Nat) (v v' : Value) : updL (updL L k v) k v' = updL L k v' := by
  funext j; unfold updL; split <;> rfl
theorem Only.down {N pb m : Nat} {v : Value} {w w' : World} (o : Only ([pb, m] ++ v.ownBlock.toList) w w') (h1 : N ≤ pb) (h2 : N ≤ m) (h3 : ∀ b, v.ownBlock = some b → N ≤ b) (hN : N ≤ w.heap.size) : Below N w w' := o.below (fun b hb => by
  simp only [List.cons_append, List.nil_append, List.mem_cons, Option.mem_toList] at hb
  rcases hb with rfl | rfl | e
  · exact h1
  · exact h2
  · exact h3 b e) hN
theorem Only.down2 {N pb m : Nat} {w w' : World} (o : Only [pb, m] w w') (h1 : N ≤ pb) (h2 : N ≤ m) (hN : N ≤ w.heap.size) : Below N w w' := o.below (fun b hb => by
  simp only [List.mem_cons, List.not_mem_nil, or_false] at hb
  rcases hb with rfl | rfl
  · exact h1
  · exact h2) hN
theorem mask3 : maskP (goes 1 l3) = 3 := by decide
theorem stay3 : stays 1 l3 = [(0, 0)] := by decide
set_option maxRecDepth 20000 in
set_option maxHeartbeats 4000000 in
theorem speaks12_any (w : World) (hT : Hid (TabAt w)) :
    Calls Tryd.prog 4 #[] w fun e w' => e = .returned (.bool true) ∧ Below w.heap.size w w' := by
  have hb0 := box1 w (.cells #[.int .i64 16] 3)
  have RI : Hid (RowI (w.alloc (.cells #[.int .i64 16] 3)) (some ⟨w.heap.size, 0, none⟩) 1 oneC) := row_block (heap_new w _) rfl
  have B0 := Lib.hid hb0
  clear hb0
  go_enter Tryd.func4, Tryd.ntmps4
  go_wp2_with fail
  generalize w.alloc (.cells #[.int .i64 16] 3) = w0 at *
  refine (snew_any 1 2 1 0 (some ⟨w.heap.size, 0, none⟩) 1 1 oneC w0 RI (by omega)).mono ?_
  rintro e w1 ⟨sb, clb, pb, M, rfl, st, _, _, p3, p4, hb⟩
  have S1 := Lib.hid st
  have N0 := B0.out.size
  have B1 := Lib.hid (B0.out.trans (hb.mono B0.out.size))
  have NP : Hid (w.heap.size ≤ pb ∧ w.heap.size ≤ M 0) := Lib.hid ⟨by omega, by have := p4 0 (by omega); omega⟩
  clear st hb p3 p4 N0
  have PA := push_any sb clb pb 1 2 1 0 1 oneC 0 (fun _ => []) (fun _ => .slice none 0 0) M 0 (0, 0) w1 S1 (by omega) (Lib.hid oneC_ok) (by omega) (by omega) ⟨by decide, by decide⟩ (by omega)
  rw [push0.1, push0.2.1] at PA
  have PA := Lib.hid PA
  go_wp2_with fail
  refine PA.out.mono ?_
  rintro e w2 ⟨rfl, v2, r1, r2, r3⟩
  have S2 := Lib.hid r1
  have O2 : Hid (∀ b, v2.ownBlock = some b → w.heap.size ≤ b) := Lib.hid (fun b e => by
    rcases r3 with h | ⟨b', h1, h2⟩
    · rw [h] at e; cases e
    · rw [h1] at e; cases e; exact Nat.le_trans B1.out.size h2)
  have B2 := Lib.hid (B1.out.trans (r2.down NP.out.1 NP.out.2 (fun b e => by cases e) B1.out.size))
  clear PA r1 r2 r3
  have PB := push_any sb clb pb 1 2 1 0 1 oneC _ _ _ M 0 (0, 0) w2 S2 (by omega) (Lib.hid oneC_ok) (by omega) (by omega) ⟨by decide, by decide⟩ (by omega)
  rw [show updP (fun _ => []) 0 [(0, 0)] 0 = ([(0, 0)] : List (Int × Int)) from rfl, push0.2.2.1, push0.2.2.2, upd2, show updL (fun _ => Value.slice none 0 0) 0 v2 0 = v2 from rfl] at PB
  have PB := Lib.hid PB
  go_wp2_with fail
  refine PB.out.mono ?_
  rintro e w3 ⟨rfl, v3, r1, r2, r3⟩
  rw [upL2] at r1
  have S3 := Lib.hid r1
  have O3 : Hid (∀ b, v3.ownBlock = some b → w.heap.size ≤ b) := Lib.hid (fun b e => by
    rcases r3 with h | ⟨b', h1, h2⟩
    · rw [h] at e; exact O2.out b e
    · rw [h1] at e; cases e; exact Nat.le_trans B2.out.size h2)
  have B3 := Lib.hid (B2.out.trans (r2.down NP.out.1 NP.out.2 O2.out B2.out.size))
  clear PB r1 r2 r3
  have T3 := Lib.hid (hT.out.next B3.out)
  go_wp2_with fail
  refine (low_yes 2 w3 (by omega) (by omega)).mono ?_
  rintro e w3' ⟨rfl, rfl⟩
  have FI := fill_in sb clb pb 1 2 1 0 1 oneC _ _ _ M 0 1 3 w3 S3 T3 (by omega) (Lib.hid oneC_ok) (by omega) (by omega) (by omega) (by decide) (by omega)
  rw [show updP (fun _ => []) 0 [(0, 0)] 0 = ([(0, 0)] : List (Int × Int)) from rfl, fill3, upd2, show updL (fun _ => Value.slice none 0 0) 0 v3 0 = v3 from rfl] at FI
  have FI := Lib.hid FI
  rw [show (Ma.lowN (Int.toNat 2)) = 3 from by decide]
  go_wp2_with fail
  refine FI.out.mono ?_
  rintro e w4 ⟨⟨v, rfl⟩, n4, v4, hn4, r1, r2, r3⟩
  rw [upL2] at r1
  have S4 := Lib.hid r1
  have O4 : Hid (∀ b, v4.ownBlock = some b → w.heap.size ≤ b) := Lib.hid (fun b e => by
    rcases r3 with h | ⟨b', h1, h2⟩
    · rw [h] at e; exact O3.out b e
    · rw [h1] at e; cases e; exact Nat.le_trans B3.out.size h2)
  have B4 := Lib.hid (B3.out.trans (r2.down NP.out.1 NP.out.2 O3.out B3.out.size))
  clear FI r1 r2 r3
  have SY := spill_yes sb clb pb 1 2 1 0 1 oneC _ _ _ M 0 w4 S4 (by omega) (by omega) (by omega) (by decide) (by decide) (Lib.hid (by decide)) (Lib.hid (show Fine64 l3 from fun x hx => by
    simp [l3] at hx
    rcases hx with rfl | rfl | rfl <;> simp))
  rw [show updP (fun _ => []) 0 l3 0 = l3 from rfl] at SY
  have SY := Lib.hid SY
  go_wp2_with fail
  refine SY.out.mono ?_
  rintro e w5 ⟨s, v5, hf, rfl, r1, r2, r3⟩
  obtain rfl := l3_full hf
  rw [mask3]
  rw [stay3, upd2, upL2] at r1
  have S5 := Lib.hid r1
  have O5 : Hid (∀ b, v5.ownBlock = some b → w.heap.size ≤ b) := Lib.hid (fun b e => Nat.le_trans B4.out.size (r3 b e))
  have B5 := Lib.hid (B4.out.trans (r2.down2 NP.out.1 NP.out.2 B4.out.size))
  clear SY r1 r2 r3 hf
  have PY := pop_yes sb clb pb 1 2 1 0 1 oneC _ _ _ M 0 [] (0, 0) w5 S5 (by omega) rfl ⟨by decide, by decide⟩ (by simp) (by decide)
  rw [upd2] at PY
  have PY := Lib.hid PY
  go_wp2_with fail
  refine PY.out.mono ?_
  rintro e w6 ⟨rfl, v6, r1, r2, r3⟩
  have S6 := Lib.hid r1
  have B6 := Lib.hid (B5.out.trans (r2.down2 NP.out.1 NP.out.2 B5.out.size))
  clear PY r1 r2 r3
  have hb := box1 w6 (.cells #[.int .i64 0, .int .i64 0] 32)
  have D7 : Hid (Two5 (w6.alloc (.cells #[.int .i64 0, .int .i64 0] 32)) w6.heap.size 32 0 0) := Two5.new w6 _ _ _
  have S7 := Lib.hid (S6.out.next hb)
  have B7 := Lib.hid (B6.out.trans (hb.mono B6.out.size))
  clear hb
  go_upto_region 8 with fail
  generalize w6.alloc (.cells #[.int .i64 0, .int .i64 0] 32) = w7 at *
  have d0 := two_c0 D7.out
  have d1 := two_c1 D7.out
  go_wp2_with fail
  refine (len_in sb clb pb 1 2 1 0 1 oneC _ _ _ M 0 w7 S7 (by omega)).mono ?_
  rintro e w8 ⟨rfl, rfl⟩
  rw [show (updP (fun _ => []) 0 [] 0 : List (Int × Int)) = [] from rfl]
  go_wp2_with fail
  go_ret
  exact ⟨rfl, B7.out⟩
end Go.Proofs.YtehmeccjgjhidaaDoor
