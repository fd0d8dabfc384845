/-
  The walk of the statement SlotBack: what is laid is copied, while another record is laid beside it.
-/
import Derived.Test.YtlpaijobcopbnaaSlot7
import Derived.Test.YtlpaijobcopbnaaWSlotPlaces
import Derived.StillTailTactics
namespace Go.Proofs.Ytlpaijobcopbnaa
open Go.RowKit Go.Sort

/-- The two records in their block. -/
structure Bx8 (w : World) (g f0 f1 : Nat) (v0 v1 : Value) (fst : Bool) : Prop where
  c0 : w.cell? ⟨g, 0, none⟩ = some (.int .u8 f0)
  c1 : w.cell? ⟨g, 1, none⟩ = some (.int .u8 f1)
  c2 : w.cell? ⟨g, 2, none⟩ = some v0
  c3 : w.cell? ⟨g, 3, none⟩ = some v1
  c4 : w.cell? ⟨g, 4, none⟩ = some (.bool fst)
theorem Bx8.lt {w : World} {g f0 f1 : Nat} {v0 v1 : Value} {fst : Bool} (h : Bx8 w g f0 f1 v0 v1 fst) : g < w.heap.size := World.block_lt_of_cell? w ⟨g, 0, none⟩ h.c0
theorem Bx8.only {l : List Nat} {w w' : World} {g f0 f1 : Nat} {v0 v1 : Value} {fst : Bool} (h : Bx8 w g f0 f1 v0 v1 fst) (x : Only l w w') (hn : g ∉ l) : Bx8 w' g f0 f1 v0 v1 fst := by
  have hb := x.block g h.lt hn
  exact ⟨(World.cell?_of_block hb).trans h.c0, (World.cell?_of_block hb).trans h.c1, (World.cell?_of_block hb).trans h.c2, (World.cell?_of_block hb).trans h.c3, (World.cell?_of_block hb).trans h.c4⟩
theorem Bx8.next {w w' : World} {g f0 f1 : Nat} {v0 v1 : Value} {fst : Bool} (h : Bx8 w g f0 f1 v0 v1 fst) (hb : Below w.heap.size w w') : Bx8 w' g f0 f1 v0 v1 fst := h.only (l := []) (Only.of_below hb) (by simp)
theorem Bx8.box (w : World) (f0 f1 : Nat) (v0 v1 : Value) (fst : Bool) (T : TypeId) : Bx8 (w.alloc (.cells #[.int .u8 f0, .int .u8 f1, v0, v1, .bool fst] T)) w.heap.size f0 f1 v0 v1 fst := ⟨by simp, by simp, by simp, by simp, by simp⟩

theorem row_block8 {w : World} {b n : Nat} {f : Nat → Nat} (h : w.heap[b]? = some (.cells (wordsOf (listOf f n)) 35 (0, 0))) (hf : ∀ t, f t < 18446744073709551616) : Row64 w (some ⟨b, 0, none⟩) n f :=
  ⟨hf, fun _ => ⟨b, 0, rfl, heap_lt h, fun j hj => by rw [cell_of h, Nat.zero_add]; simp [wordsOf, listOf, hj]⟩⟩
theorem block_at8 {w : World} {b n j : Nat} {f : Nat → Nat} (h : w.heap[b]? = some (.cells (wordsOf (listOf f n)) 35 (0, 0))) (hj : j < n) : w.cell? ⟨b, j, none⟩ = some (.int .u64 (f j : Nat)) := by
  rw [cell_of h]; simp [wordsOf, listOf, hj]
theorem list_is {xs : List Nat} {n : Nat} {f : Nat → Nat} (hl : xs.length = n) (he : ∀ t, t < n → xs.getD t 0 = f t) : xs = listOf f n := by
  apply List.ext_getElem
  · rw [hl, listOf_len]
  · intro i h1 h2
    have := he i (by omega)
    rw [List.getD_eq_getElem?_getD, List.getElem?_eq_getElem h1, Option.getD_some] at this
    rw [this]; simp [listOf]
theorem at8 (W K : Nat) (h1 : 1 ≤ K) (h8 : K ≤ 8) (hW : W < 20) : atN 3 W K (K - 1) 0 + (W + 3 * K) = atN 3 W K (K - 1) 1 ∧ atN 3 W K (K - 1) 1 + (W + 3 * K) = atN 3 W K K 0 ∧ atN 3 W K K 0 ≤ 1000 ∧ 3 ≤ atN 3 W K K 0 := by
  have e1 := at_next 3 W K (K - 1) 0
  have e2 := at_next 3 W K (K - 1) 1
  have e3 : atN 3 W K (K - 1) (1 + 1) = atN 3 W K K 0 := by
    have := at_two 3 W K (K - 1)
    rw [show K - 1 + 1 = K by omega] at this
    exact this
  rw [e3] at e2
  have e4 := at_small (B := 3) (W := W) (K := K) (v := K) (s := 0) (by omega) (by omega) (by omega) (by omega) (by omega)
  have h : (2 * K + 0) * (W + 3 * K) ≤ 16 * 43 := Nat.mul_le_mul (by omega) (by omega)
  refine ⟨e1, e2, ?_, ?_⟩ <;> unfold atN <;> omega
theorem at_minus (W K s : Nat) (w : World) (h1 : 1 ≤ K) (h8 : K ≤ 8) (hW : W < 20) (hs : s ≤ 1) : Calls Try.prog 14 #[.agg #[.int .i64 3, .int .i64 W, .int .i64 K], .int .i64 ((K : Int) - 1), .int .i64 s] w fun e w' => e = .returned (.int .i64 (atN 3 W K (K - 1) s : Nat)) ∧ Below w.heap.size w w' := by
  have := at_any 3 W K (K - 1) s w (by omega) (by omega) (by omega) (by omega) hs
  rw [show ((K - 1 : Nat) : Int) = (K : Int) - 1 by omega] at this
  exact this
set_option maxRecDepth 20000 in
set_option maxHeartbeats 2000000 in
theorem back8_few (f0 f1 W K la ca lb cb : Nat) (aa ab : Option Addr) (fst : Bool) (fa fb : Nat → Nat) (w : World) (hW : W = f0 % 20) (hK : K = 1 + f1 % 8) (h0 : f0 < 256) (h1 : f1 < 256) (hla : la ≤ 200) (hlb : lb ≤ 200) (hra0 : Row64 w aa la fa) (hrb0 : Row64 w ab lb fb) :
    Calls Try.prog 6 #[.agg #[.int .u8 f0, .int .u8 f1, .slice aa la ca, .slice ab lb cb, .bool fst]] w fun e w' => e = .returned (.bool true) ∧ Below w.heap.size w w' := by
  have l1 : (la : Int) ≤ 200 := by omega
  have l2 : (lb : Int) ≤ 200 := by omega
  have EW : Hid ((f0 : Int) % 20 = (W : Int)) := by show _ = _; omega
  have EK : Hid ((1 : Int) + (f1 : Int) % 8 = (K : Int)) := by show _ = _; omega
  have K1 : 1 ≤ K := by omega
  have K8 : K ≤ 8 := by omega
  have W20 : W < 20 := by omega
  clear hW hK
  have bx := box1 w (.cells #[.int .u8 f0, .int .u8 f1, .slice aa la ca, .slice ab lb cb, .bool fst] 46)
  have hra := Lib.hid (hra0.next bx)
  have hrb := Lib.hid (hrb0.next bx)
  have HB0 := Lib.hid fun wx (hb : Below (w.alloc (.cells #[.int .u8 f0, .int .u8 f1, .slice aa la ca, .slice ab lb cb, .bool fst] 46)).heap.size (w.alloc (.cells #[.int .u8 f0, .int .u8 f1, .slice aa la ca, .slice ab lb cb, .bool fst] 46)) wx) => below_two bx hb
  have BC : Hid (Bx8 (w.alloc (.cells #[.int .u8 f0, .int .u8 f1, .slice aa la ca, .slice ab lb cb, .bool fst] 46)) w.heap.size f0 f1 (.slice aa la ca) (.slice ab lb cb) fst) := Bx8.box w f0 f1 _ _ fst _
  clear hra0 hrb0 bx
  go_enter Try.func6, Try.ntmps6
  go_wp2_with fail
  generalize w.alloc (.cells #[.int .u8 f0, .int .u8 f1, .slice aa la ca, .slice ab lb cb, .bool fst] 46) = wa at *
  generalize hN : w.heap.size = N at *
  refine (speaks8 _).mono ?_
  rintro e w1 ⟨rfl, hb⟩
  have B1 := Lib.hid hb
  clear hb
  go_upto_region 3 with fail
  go_cut [3, 4, 5, 6] (fun v3 v4 v5 v6 wx => ∃ q, v3 = .pointer (some ⟨q, 0, none⟩) ∧ v4 = .slice aa la ca ∧ v5 = .slice ab lb cb ∧ v6 = .bool fst ∧ wx.cell? ⟨q, 0, none⟩ = some (.int .u8 f0) ∧ wx.cell? ⟨q, 1, none⟩ = some (.int .u8 f1) ∧ Below wa.heap.size wa wx)
  case first =>
    have C1 := BC.out.next B1.out
    refine wp_region_noPanic ?_
    refine wp_region_held_drew (S := fun w' => w'.cell? ⟨N, 0, none⟩ = some (.int .u8 f0) ∧ w'.cell? ⟨N, 1, none⟩ = some (.int .u8 f1) ∧ w'.cell? ⟨N, 2, none⟩ = some (.slice aa la ca) ∧ w'.cell? ⟨N, 3, none⟩ = some (.slice ab lb cb) ∧ w'.cell? ⟨N, 4, none⟩ = some (.bool fst)) (by kernel_rfl) ⟨C1.c0, C1.c1, C1.c2, C1.c3, C1.c4⟩ (fun hHeld => ?_)
    have C2 := Lib.hid (C1.next (Below.refl _ w1).drew)
    have B2 := Lib.hid (below_two B1.out (Below.refl _ w1).drew)
    clear C1
    generalize w1.drew = x0 at *
    refine wpAnyH_take (i := 0) (v := .pointer (some ⟨N, 0, none⟩)) rfl (by kernel_rfl) (by kernel_rfl) (by kernel_rfl) (fun _ _ _ h => h) (Or.inl ⟨by rfl, fun w hSw => by go_simp⟩) (by assumption) ?_
    change wpAnyH _ _ _ _ _ _ _ (Act.put _ (some 22) _) _
    simp only [Act.put, List.setIfInBounds_toArray, List.set_cons_zero, List.set_cons_succ]
    refine wpAnyH_take (i := 1) (v := .agg #[.int .u8 f0, .int .u8 f1]) rfl (by kernel_rfl) (by kernel_rfl) (by kernel_rfl) (fun _ _ _ h => h) (Or.inl ⟨by rfl, fun w hSw => by obtain ⟨s0, s1, s2, s3, s4⟩ := hSw; go_simp⟩) (by assumption) ?_
    change wpAnyH _ _ _ _ _ _ _ (Act.put _ (some 23) _) _
    simp only [Act.put, List.setIfInBounds_toArray, List.set_cons_zero, List.set_cons_succ]
    refine wpAnyH_take (i := 2) (v := .pointer (some ⟨N, 2, none⟩)) rfl (by kernel_rfl) (by kernel_rfl) (by kernel_rfl) (fun _ _ _ h => h) (Or.inl ⟨by rfl, fun w hSw => by go_simp⟩) (by assumption) ?_
    change wpAnyH _ _ _ _ _ _ _ (Act.put _ (some 24) _) _
    simp only [Act.put, List.setIfInBounds_toArray, List.set_cons_zero, List.set_cons_succ]
    refine wpAnyH_take (i := 3) (v := .slice aa la ca) rfl (by kernel_rfl) (by kernel_rfl) (by kernel_rfl) (fun _ _ _ h => h) (Or.inl ⟨by rfl, fun w hSw => by obtain ⟨s0, s1, s2, s3, s4⟩ := hSw; go_simp⟩) (by assumption) ?_
    change wpAnyH _ _ _ _ _ _ _ (Act.put _ (some 25) _) _
    simp only [Act.put, List.setIfInBounds_toArray, List.set_cons_zero, List.set_cons_succ]
    refine wpAnyH_take (i := 4) (v := .pointer (some ⟨N, 3, none⟩)) rfl (by kernel_rfl) (by kernel_rfl) (by kernel_rfl) (fun _ _ _ h => h) (Or.inl ⟨by rfl, fun w hSw => by go_simp⟩) (by assumption) ?_
    change wpAnyH _ _ _ _ _ _ _ (Act.put _ (some 26) _) _
    simp only [Act.put, List.setIfInBounds_toArray, List.set_cons_zero, List.set_cons_succ]
    refine wpAnyH_take (i := 5) (v := .slice ab lb cb) rfl (by kernel_rfl) (by kernel_rfl) (by kernel_rfl) (fun _ _ _ h => h) (Or.inl ⟨by rfl, fun w hSw => by obtain ⟨s0, s1, s2, s3, s4⟩ := hSw; go_simp⟩) (by assumption) ?_
    change wpAnyH _ _ _ _ _ _ _ (Act.put _ (some 27) _) _
    simp only [Act.put, List.setIfInBounds_toArray, List.set_cons_zero, List.set_cons_succ]
    refine wpAnyH_take (i := 6) (v := .pointer (some ⟨N, 4, none⟩)) rfl (by kernel_rfl) (by kernel_rfl) (by kernel_rfl) (fun _ _ _ h => h) (Or.inl ⟨by rfl, fun w hSw => by go_simp⟩) (by assumption) ?_
    change wpAnyH _ _ _ _ _ _ _ (Act.put _ (some 28) _) _
    simp only [Act.put, List.setIfInBounds_toArray, List.set_cons_zero, List.set_cons_succ]
    refine wpAnyH_take (i := 7) (v := .bool fst) rfl (by kernel_rfl) (by kernel_rfl) (by kernel_rfl) (fun _ _ _ h => h) (Or.inl ⟨by rfl, fun w hSw => by obtain ⟨s0, s1, s2, s3, s4⟩ := hSw; go_simp⟩) (by assumption) ?_
    change wpAnyH _ _ _ _ _ _ _ (Act.put _ (some 29) _) _
    simp only [Act.put, List.setIfInBounds_toArray, List.set_cons_zero, List.set_cons_succ]
    refine wpAnyH_ready (rs := [8]) (by kernel_rfl) (by simp) ?_
    refine AllReadyH.cons rfl (fun KK hK => ?_) AllReadyH.nil
    clear hHeld
    have B3 := Lib.hid (below_two B2.out (box1 x0 (.cells #[.int .u8 0, .int .u8 0] 32)))
    have C3 := Lib.hid (C2.out.next (box1 x0 (.cells #[.int .u8 0, .int .u8 0] 32)))
    have H3 := Lib.hid (heap_new x0 (.cells #[.int .u8 0, .int .u8 0] 32))
    have NQ : Hid (∀ k ∈ [N], k ∉ [x0.heap.size]) := fun k hk => by have := C2.out.lt; simp at hk ⊢; omega
    have Q0 := Lib.hid B2.out.size
    go_simp
    refine hK.out _ _ ⟨C3.out.c0, C3.out.c1, C3.out.c2, C3.out.c3, C3.out.c4⟩ (fun hHeld => ?_)
    clear hK KK hHeld
    generalize x0.alloc (.cells #[.int .u8 0, .int .u8 0] 32) = x1 at *
    generalize x0.heap.size = q at *
    refine wpAnyH_ready (rs := [9]) (by kernel_rfl) (by simp) ?_
    refine AllReadyH.cons rfl (fun KK hK => ?_) AllReadyH.nil
    have z0 := frozen_of (j := 0) H3.out
    have z1 := frozen_of (j := 1) H3.out
    have e0 : x1.cell? ⟨q, 0, none⟩ = some (.int .u8 0) := cell_of H3.out
    have e1 : x1.cell? ⟨q, 1, none⟩ = some (.int .u8 0) := cell_of H3.out
    have X4 : Hid (Only [q] x1 ((x1.setCell ⟨q, 0, none⟩ (.int .u8 f0)).setCell ⟨q, 1, none⟩ (.int .u8 f1))) := (Only.of_set (j := 0) (by simp : q ∈ [q]) (.int .u8 f0)).trans (Only.of_set (j := 1) (by simp : q ∈ [q]) (.int .u8 f1))
    have H4 : Hid (((x1.setCell ⟨q, 0, none⟩ (.int .u8 f0)).setCell ⟨q, 1, none⟩ (.int .u8 f1)).heap[q]? = some (.cells #[.int .u8 f0, .int .u8 f1] 32 (0, 0))) := by
      show _ = _
      rw [set_of (set_of H3.out _) _]; rfl
    have B4 := Lib.hid (below_only B3.out X4.out (fun k hk => by simp at hk; rw [hk]; exact Q0.out))
    have C4 := Lib.hid (C3.out.only X4.out (NQ.out N (by simp)))
    go_simp
    generalize (x1.setCell ⟨q, 0, none⟩ (.int .u8 f0)).setCell ⟨q, 1, none⟩ (.int .u8 f1) = x2 at *
    refine hK.out _ _ ⟨C4.out.c0, C4.out.c1, C4.out.c2, C4.out.c3, C4.out.c4⟩ (fun hHeld => ?_)
    clear hK KK z0 z1 e0 e1
    refine wpAnyH_take (i := 10) (v := .slice aa la ca) rfl (by kernel_rfl) (by kernel_rfl) (by kernel_rfl) (fun _ _ _ h => h) (Or.inl ⟨by rfl, fun w hSw => by go_simp⟩) (by assumption) ?_
    change wpAnyH _ _ _ _ _ _ _ (Act.put _ (some 4) _) _
    simp only [Act.put, List.setIfInBounds_toArray, List.set_cons_zero, List.set_cons_succ]
    refine wpAnyH_take (i := 11) (v := .slice ab lb cb) rfl (by kernel_rfl) (by kernel_rfl) (by kernel_rfl) (fun _ _ _ h => h) (Or.inl ⟨by rfl, fun w hSw => by go_simp⟩) (by assumption) ?_
    change wpAnyH _ _ _ _ _ _ _ (Act.put _ (some 5) _) _
    simp only [Act.put, List.setIfInBounds_toArray, List.set_cons_zero, List.set_cons_succ]
    refine wpAnyH_take (i := 12) (v := .bool fst) rfl (by kernel_rfl) (by kernel_rfl) (by kernel_rfl) (fun _ _ _ h => h) (Or.inl ⟨by rfl, fun w hSw => by go_simp⟩) (by assumption) ?_
    change wpAnyH _ _ _ _ _ _ _ (Act.put _ (some 6) _) _
    simp only [Act.put, List.setIfInBounds_toArray, List.set_cons_zero, List.set_cons_succ]
    refine wpAnyH_done (by kernel_rfl) ?_ _
    refine NoPanic.normal ?_
    go_wp2_with fail
    go_meet
    case rel => exact ⟨q, rfl, rfl, rfl, rfl, cell_of H4.out, cell_of H4.out, B4.out⟩
  case rest =>
    obtain ⟨q, rfl, rfl, rfl, rfl, e0, e1, hb⟩ := hcut
    have B2 := Lib.hid hb
    clear hb B1
    go_upto_region 4 with fail
    have k0 := cell_regrown e0
    have k1 := cell_regrown e1
    refine wp_region_quiet_below (by kernel_rfl) (by kernel_rfl) ?_
    repeat (go_big_quiet_step (fail))
    refine wpQuiet_nil ?_
    intro _ hwq
    obtain ⟨⟨dq, osq⟩, hwq2⟩ := hwq
    subst hwq2
    have HQ := Lib.hid (below_regrown wc dq osq)
    have B3 := Lib.hid (below_two B2.out HQ.out)
    generalize Sort.grow (redrawn wc dq) osq = w3 at *
    clear HQ k0 k1
    clear B2
    go_wp2_with fail
    rw [EW.out, EK.out]
    generalize (f1 : Int) % 8 = k8 at *
    clear EW EK e0 e1
    have B4 := Lib.hid (below_two B3.out (box1 w3 (.cells #[.int .i64 3, .int .i64 (W : Int), .int .i64 (K : Int)] 25)))
    have F4 : Hid (Fr (w3.alloc (.cells #[.int .i64 3, .int .i64 (W : Int), .int .i64 (K : Int)] 25)) w3.heap.size 3 W K) := Fr.box w3 3 W K 25
    generalize w3.alloc (.cells #[.int .i64 3, .int .i64 (W : Int), .int .i64 (K : Int)] 25) = w4 at *
    generalize w3.heap.size = xb at *
    obtain ⟨A01, A1z, z1000, z3⟩ := at8 W K K1 K8 W20
    have AT0 := Lib.hid fun w1 => at_minus W K 0 w1 K1 K8 W20 (by omega)
    have AT1 := Lib.hid fun w1 => at_minus W K 1 w1 K1 K8 W20 (by omega)
    have SZ := Lib.hid fun w1 => size8_any 3 W K w1 (by omega) (by omega) (by omega)
    have RC := Lib.hid fun w1 => record_any 3 W K w1 (by omega) (by omega)
    generalize hn : W + 3 * K = n at *
    have n50 : n ≤ 50 := by omega
    clear hn
    generalize atN 3 W K (K - 1) 0 = A0 at *
    generalize atN 3 W K (K - 1) 1 = A1 at *
    generalize atN 3 W K K 0 = z at *
    obtain ⟨zz, hzz⟩ : ∃ zz, z - 3 = zz := ⟨_, rfl⟩
    rw [hzz] at SZ
    obtain rfl : z = 3 + zz := by omega
    clear hzz z3
    refine (RC.out _).mono ?_
    rintro e w5 ⟨rfl, hb⟩
    have B5 := Lib.hid (below_two B4.out hb)
    have F5 := Lib.hid (F4.out.next hb)
    clear hb B4 F4 B3 RC
    have FB := (F5.out.next (box1 w5 (.cells #[.int .i64 (n : Int)] 3)))
    have NB : (w5.alloc (.cells #[.int .i64 (n : Int)] 3)).cell? ⟨w5.heap.size, 0, none⟩ = some (.int .i64 (n : Int)) := by simp
    have BB := below_two B5.out (box1 w5 (.cells #[.int .i64 (n : Int)] 3))
    have HRA := Lib.hid (hra.out.next BB)
    have HRB := Lib.hid (hrb.out.next BB)
    have HBb := Lib.hid fun wx (hb : Below (w5.alloc (.cells #[.int .i64 (n : Int)] 3)).heap.size (w5.alloc (.cells #[.int .i64 (n : Int)] 3)) wx) => HB0.out wx (below_two BB hb)
    obtain ⟨c0, c1, c2⟩ := FB
    go_wp2_with fail
    have FRb : Hid (Fr (w5.alloc (.cells #[.int .i64 (n : Int)] 3)) xb 3 W K) := ⟨c0, c1, c2⟩
    generalize w5.alloc (.cells #[.int .i64 (n : Int)] 3) = wb at *
    generalize w5.heap.size = nb at *
    have S4 : Hid (∀ wx, Below wb.heap.size wb wx → wx.cell? ⟨xb, 0, none⟩ = some (.int .i64 3) ∧ wx.cell? ⟨xb, 1, none⟩ = some (.int .i64 (W : Int)) ∧ wx.cell? ⟨xb, 2, none⟩ = some (.int .i64 (K : Int)) ∧ wx.cell? ⟨nb, 0, none⟩ = some (.int .i64 (n : Int))) := fun wx hb => ⟨(FRb.out.next hb).c0, (FRb.out.next hb).c1, (FRb.out.next hb).c2, (hb.cell (p := ⟨nb, 0, none⟩) (World.block_lt_of_cell? _ _ NB)).trans NB⟩
    have HPA : Hid (∀ t, padF fa la t < 18446744073709551616) := fun t => by unfold padF; split; exact HRA.out.1 t; decide
    have HPB : Hid (∀ t, padF fb lb t < 18446744073709551616) := fun t => by unfold padF; split; exact HRB.out.1 t; decide
    have RA := Lib.hid fun wx (hb : Below wb.heap.size wb wx) => rec_any aa la ca n nb fa wx (HRA.out.next hb) (by omega) (S4.out wx hb).2.2.2
    have RB := Lib.hid fun wx (hb : Below wb.heap.size wb wx) => rec_any ab lb cb n nb fb wx (HRB.out.next hb) (by omega) (S4.out wx hb).2.2.2
    generalize padF fa la = pa at *
    generalize padF fb lb = pb at *
    clear c0 c1 c2 BB NB B5 F5 HB0
    refine (SZ.out _).mono ?_
    rintro e w6 ⟨rfl, hb⟩
    have B6 := Lib.hid hb
    clear hb SZ
    have NW : Hid (Calls Try.prog 18 #[.int .i64 (3 + (zz : Int))] w6 fun e w' => ∃ g h, e = .returned (.pointer (some ⟨g, 0, none⟩)) ∧ MemAt w' g h (MSt.fresh (3 + zz)) ∧ w6.heap.size ≤ g ∧ w6.heap.size ≤ h ∧ Below w6.heap.size w6 w') := by
      rw [show (3 : Int) + (zz : Int) = ((3 + zz : Nat) : Int) by omega]
      exact new8 _ w6 (by omega)
    go_wp2_with fail
    refine NW.out.mono ?_
    rintro e w7 ⟨mg, mh, rfl, m7, hg, hh, hb⟩
    have B7 := Lib.hid (below_two B6.out hb)
    have M7 := Lib.hid m7
    have hg' : wb.heap.size ≤ mg := Nat.le_trans B6.out.size hg
    have hh' : wb.heap.size ≤ mh := Nat.le_trans B6.out.size hh
    clear hb m7 hg hh NW B6
    go_upto_region 11 with fail
    go_cut [13, 14] (fun v13 v14 wx => ∃ gp bp gq bq, v13 = .pointer (some ⟨gp, 0, none⟩) ∧ v14 = .pointer (some ⟨gq, 0, none⟩) ∧ Lays wb wx mg mh gp bp A0 0 gq bq A1 0 n (3 + zz) (List.replicate (3 + zz) 0) 0 0 0 pa pb)
    case first =>
      have kw : IntKind.i64.wrap ((K : Int) - 1) = (K : Int) - 1 := by rw [IntKind.wrap_i64]; omega
      refine wp_region_noPanic ?_
      refine wp_region_held_drew (S := fun w' => w'.cell? ⟨xb, 0, none⟩ = some (.int .i64 3) ∧ w'.cell? ⟨xb, 1, none⟩ = some (.int .i64 (W : Int)) ∧ w'.cell? ⟨xb, 2, none⟩ = some (.int .i64 (K : Int)) ∧ w'.cell? ⟨nb, 0, none⟩ = some (.int .i64 (n : Int))) (by kernel_rfl) (S4.out _ (below_two B7.out (Below.refl _ w7).drew)) (fun hHeld => ?_)
      have M8 := Lib.hid (M7.out.next (Below.refl _ w7).drew)
      have B8 := Lib.hid (below_two B7.out (Below.refl _ w7).drew)
      generalize w7.drew = x0 at *
      refine wpAnyH_take (i := 0) (v := .pointer (some ⟨mg, 0, none⟩)) rfl (by kernel_rfl) (by kernel_rfl) (by kernel_rfl) (fun _ _ _ h => h) (Or.inl ⟨by rfl, fun w hSw => by go_simp⟩) (by assumption) ?_
      change wpAnyH _ _ _ _ _ _ _ (Act.put _ (some 57) _) _
      simp only [Act.put, List.setIfInBounds_toArray, List.set_cons_zero, List.set_cons_succ]
      refine wpAnyH_take (i := 1) (v := .agg #[.int .i64 3, .int .i64 (W : Int), .int .i64 (K : Int)]) rfl (by kernel_rfl) (by kernel_rfl) (by kernel_rfl) (fun _ _ _ h => h) (Or.inl ⟨by rfl, fun w hSw => by obtain ⟨s0, s1, s2, s3⟩ := hSw; go_simp⟩) (by assumption) ?_
      change wpAnyH _ _ _ _ _ _ _ (Act.put _ (some 58) _) _
      simp only [Act.put, List.setIfInBounds_toArray, List.set_cons_zero, List.set_cons_succ]
      refine wpAnyH_take (i := 2) (v := .int .i64 (K : Int)) rfl (by kernel_rfl) (by kernel_rfl) (by kernel_rfl) (fun _ _ _ h => h) (Or.inl ⟨by rfl, fun w hSw => by go_simp⟩) (by assumption) ?_
      change wpAnyH _ _ _ _ _ _ _ (Act.put _ (some 59) _) _
      simp only [Act.put, List.setIfInBounds_toArray, List.set_cons_zero, List.set_cons_succ]
      refine wpAnyH_take (i := 3) (v := .int .i64 ((K : Int) - 1)) rfl (by kernel_rfl) (by kernel_rfl) (by kernel_rfl) (fun _ _ _ h => h) (Or.inl ⟨by rfl, fun w hSw => by go_simp⟩) (by assumption) ?_
      change wpAnyH _ _ _ _ _ _ _ (Act.put _ (some 60) _) _
      simp only [Act.put, List.setIfInBounds_toArray, List.set_cons_zero, List.set_cons_succ]
      refine wpAnyH_take (i := 5) (v := .func (.func 29) #[] #[.pointer (some ⟨nb, 0, none⟩)]) rfl (by kernel_rfl) (by kernel_rfl) (by kernel_rfl) (fun _ _ _ h => h) (Or.inl ⟨by rfl, fun w hSw => by go_simp⟩) (by assumption) ?_
      change wpAnyH _ _ _ _ _ _ _ (Act.put _ (some 62) _) _
      simp only [Act.put, List.setIfInBounds_toArray, List.set_cons_zero, List.set_cons_succ]
      refine wpAnyH_take (i := 6) (v := .slice aa la ca) rfl (by kernel_rfl) (by kernel_rfl) (by kernel_rfl) (fun _ _ _ h => h) (Or.inl ⟨by rfl, fun w hSw => by go_simp⟩) (by assumption) ?_
      change wpAnyH _ _ _ _ _ _ _ (Act.put _ (some 63) _) _
      simp only [Act.put, List.setIfInBounds_toArray, List.set_cons_zero, List.set_cons_succ]
      refine wpAnyH_take (i := 9) (v := .pointer (some ⟨mg, 0, none⟩)) rfl (by kernel_rfl) (by kernel_rfl) (by kernel_rfl) (fun _ _ _ h => h) (Or.inl ⟨by rfl, fun w hSw => by go_simp⟩) (by assumption) ?_
      change wpAnyH _ _ _ _ _ _ _ (Act.put _ (some 66) _) _
      simp only [Act.put, List.setIfInBounds_toArray, List.set_cons_zero, List.set_cons_succ]
      refine wpAnyH_take (i := 10) (v := .agg #[.int .i64 3, .int .i64 (W : Int), .int .i64 (K : Int)]) rfl (by kernel_rfl) (by kernel_rfl) (by kernel_rfl) (fun _ _ _ h => h) (Or.inl ⟨by rfl, fun w hSw => by obtain ⟨s0, s1, s2, s3⟩ := hSw; go_simp⟩) (by assumption) ?_
      change wpAnyH _ _ _ _ _ _ _ (Act.put _ (some 67) _) _
      simp only [Act.put, List.setIfInBounds_toArray, List.set_cons_zero, List.set_cons_succ]
      refine wpAnyH_take (i := 11) (v := .int .i64 (K : Int)) rfl (by kernel_rfl) (by kernel_rfl) (by kernel_rfl) (fun _ _ _ h => h) (Or.inl ⟨by rfl, fun w hSw => by go_simp⟩) (by assumption) ?_
      change wpAnyH _ _ _ _ _ _ _ (Act.put _ (some 68) _) _
      simp only [Act.put, List.setIfInBounds_toArray, List.set_cons_zero, List.set_cons_succ]
      refine wpAnyH_take (i := 12) (v := .int .i64 ((K : Int) - 1)) rfl (by kernel_rfl) (by kernel_rfl) (by kernel_rfl) (fun _ _ _ h => h) (Or.inl ⟨by rfl, fun w hSw => by go_simp⟩) (by assumption) ?_
      change wpAnyH _ _ _ _ _ _ _ (Act.put _ (some 69) _) _
      simp only [Act.put, List.setIfInBounds_toArray, List.set_cons_zero, List.set_cons_succ]
      refine wpAnyH_take (i := 14) (v := .func (.func 29) #[] #[.pointer (some ⟨nb, 0, none⟩)]) rfl (by kernel_rfl) (by kernel_rfl) (by kernel_rfl) (fun _ _ _ h => h) (Or.inl ⟨by rfl, fun w hSw => by go_simp⟩) (by assumption) ?_
      change wpAnyH _ _ _ _ _ _ _ (Act.put _ (some 71) _) _
      simp only [Act.put, List.setIfInBounds_toArray, List.set_cons_zero, List.set_cons_succ]
      refine wpAnyH_take (i := 15) (v := .slice ab lb cb) rfl (by kernel_rfl) (by kernel_rfl) (by kernel_rfl) (fun _ _ _ h => h) (Or.inl ⟨by rfl, fun w hSw => by go_simp⟩) (by assumption) ?_
      change wpAnyH _ _ _ _ _ _ _ (Act.put _ (some 72) _) _
      simp only [Act.put, List.setIfInBounds_toArray, List.set_cons_zero, List.set_cons_succ]
      clear hHeld
      refine wpAnyH_ready (rs := [4]) (by kernel_rfl) (by simp) ?_
      refine AllReadyH.cons rfl (fun KK hK => ?_) AllReadyH.nil
      go_simp
      refine (AT0.out _).mono ?_
      rintro e x1 ⟨rfl, hb⟩
      have B9 := Lib.hid (below_two B8.out hb)
      have M9 := Lib.hid (M8.out.next hb)
      clear hb
      go_wp2_with fail
      refine hK.out _ _ (S4.out _ B9.out) (fun hHeld => ?_)
      clear hK KK hHeld
      refine wpAnyH_ready (rs := [7]) (by kernel_rfl) (by simp) ?_
      refine AllReadyH.cons rfl (fun KK hK => ?_) AllReadyH.nil
      go_simp
      refine (RA.out _ B9.out).mono ?_
      rintro e x2 ⟨ba, rfl, hba, hbl, hb⟩
      have B10 := Lib.hid (below_two B9.out hb)
      have M10 := Lib.hid (M9.out.next hb)
      have R10 := Lib.hid (row_block8 hba HPA.out)
      clear hb hba hbl
      go_wp2_with fail
      refine hK.out _ _ (S4.out _ B10.out) (fun hHeld => ?_)
      clear hK KK hHeld
      refine wpAnyH_ready (rs := [8]) (by kernel_rfl) (by simp) ?_
      refine AllReadyH.cons rfl (fun KK hK => ?_) AllReadyH.nil
      go_simp
      refine (lay_any mg mh _ (A0 : Int) (some ⟨ba, 0, none⟩) n n pa _ M10.out R10.out (by omega)).mono ?_
      rintro e x3 ⟨gp, bp, rfl, hL, g1, b1, hb⟩
      have B11 := Lib.hid (below_two B10.out hb)
      have M11 := Lib.hid hL.mem
      have L11 := Lib.hid hL
      have q1 := B10.out.size
      have q2 := hL.lt
      have q3 := M10.out.lt
      clear hb hL
      go_wp2_with fail
      refine hK.out _ _ (S4.out _ B11.out) (fun hHeld => ?_)
      clear hK KK hHeld
      refine wpAnyH_ready (rs := [13]) (by kernel_rfl) (by simp) ?_
      refine AllReadyH.cons rfl (fun KK hK => ?_) AllReadyH.nil
      go_simp
      refine (AT1.out _).mono ?_
      rintro e x4 ⟨rfl, hb⟩
      have B12 := Lib.hid (below_two B11.out hb)
      have M12 := Lib.hid (M11.out.next hb)
      have L12 := Lib.hid (L11.out.next hb)
      have q4 := hb.size
      clear hb
      go_wp2_with fail
      refine hK.out _ _ (S4.out _ B12.out) (fun hHeld => ?_)
      clear hK KK hHeld
      refine wpAnyH_ready (rs := [16]) (by kernel_rfl) (by simp) ?_
      refine AllReadyH.cons rfl (fun KK hK => ?_) AllReadyH.nil
      go_simp
      refine (RB.out _ B12.out).mono ?_
      rintro e x5 ⟨bb, rfl, hbb, hbl, hb⟩
      have B13 := Lib.hid (below_two B12.out hb)
      have M13 := Lib.hid (M12.out.next hb)
      have L13 := Lib.hid (L12.out.next hb)
      have R13 := Lib.hid (row_block8 hbb HPB.out)
      have q5 := hb.size
      clear hb hbb hbl
      go_wp2_with fail
      refine hK.out _ _ (S4.out _ B13.out) (fun hHeld => ?_)
      clear hK KK hHeld
      refine wpAnyH_ready (rs := [17]) (by kernel_rfl) (by simp) ?_
      refine AllReadyH.cons rfl (fun KK hK => ?_) AllReadyH.nil
      go_simp
      refine (lay_any mg mh _ (A1 : Int) (some ⟨bb, 0, none⟩) n n pb _ M13.out R13.out (by omega)).mono ?_
      rintro e x6 ⟨gq, bq, rfl, hL, g2, b2, hb⟩
      have B14 := Lib.hid (below_two B13.out hb)
      have L14 := Lib.hid (L13.out.next hb)
      have Q14 := Lib.hid hL
      have q6 := B13.out.size
      clear hb hL
      go_wp2_with fail
      refine hK.out _ _ (S4.out _ B14.out) (fun hHeld => ?_)
      clear hK KK
      refine wpAnyH_take (i := 18) (v := .pointer (some ⟨gp, 0, none⟩)) rfl (by kernel_rfl) (by kernel_rfl) (by kernel_rfl) (fun _ _ _ h => h) (Or.inl ⟨by rfl, fun w hSw => by go_simp⟩) (by assumption) ?_
      change wpAnyH _ _ _ _ _ _ _ (Act.put _ (some 13) _) _
      simp only [Act.put, List.setIfInBounds_toArray, List.set_cons_zero, List.set_cons_succ]
      refine wpAnyH_take (i := 19) (v := .pointer (some ⟨gq, 0, none⟩)) rfl (by kernel_rfl) (by kernel_rfl) (by kernel_rfl) (fun _ _ _ h => h) (Or.inl ⟨by rfl, fun w hSw => by go_simp⟩) (by assumption) ?_
      change wpAnyH _ _ _ _ _ _ _ (Act.put _ (some 14) _) _
      simp only [Act.put, List.setIfInBounds_toArray, List.set_cons_zero, List.set_cons_succ]
      have LZ : Hid (Lays wb x6 mg mh gp bp A0 0 gq bq A1 0 n (3 + zz) (List.replicate (3 + zz) 0) 0 0 0 pa pb) :=
        ⟨L14.out, Q14.out, by simp, fun x hx => by rw [List.eq_of_mem_replicate hx]; decide, fun t ht => absurd ht (by omega), fun t ht => absurd ht (by omega), by simp; omega, by simp; omega, fun k hk => by simp at hk; omega, B14.out⟩
      refine wpAnyH_done (by kernel_rfl) ?_ _
      refine NoPanic.normal ?_
      go_wp2_with fail
      go_meet
      case rel => exact ⟨gp, bp, gq, bq, rfl, rfl, LZ.out⟩
    case rest =>
      obtain ⟨gp, bp, gq, bq, rfl, rfl, hL⟩ := hcut
      have L8 := Lib.hid hL
      clear hL M7 B7
      obtain ⟨d0, d1, d2, d3⟩ := S4.out _ L8.out.b
      go_wp2_with fail
      clear d0 d1 d2 d3
      go_loopw [76] (fun u wq => ∃ (i op : Nat) (ms : List Nat) (kd a : Int), i ≤ n ∧ u = .int .i64 i ∧ op = 2 * i ∧ Lays wb wq mg mh gp bp A0 i gq bq A1 i n (3 + zz) ms op kd a pa pb) (fun u _ => n - (intOf u).toNat)
      case atStart => exact ⟨0, 0, _, 0, 0, Nat.zero_le _, rfl, rfl, L8.out⟩
      case round =>
        obtain ⟨i, op, ms, kd, a, hi, rfl, hop, hL⟩ := hrel
        have LR := Lib.hid hL
        clear hL L8
        by_cases hl : i < n
        · have l3 : (i : Int) < (n : Int) := by omega
          cases fst
          · go_wp2_with fail
            refine (lays_p (Lib.hid LR.out.swap) hl (by omega) (by omega) (by omega) HPB.out (by omega) (by omega) (by omega)).mono ?_
            rintro e w8 ⟨bb, ms8, kd8, a8, rfl, h8⟩
            have L9 := Lib.hid h8.swap
            clear h8 LR
            go_wp2_with fail
            refine (lays_p L9 hl (by omega) (by omega) (by omega) HPA.out (by omega) (by omega) (by omega)).mono ?_
            rintro e w9 ⟨bb9, ms9, kd9, a9, rfl, h9⟩
            have L10 := Lib.hid h9
            clear h9 L9
            go_wp2_with fail
            go_roundw
            case rel => exact ⟨i + 1, op + 1 + 1, ms9, kd9, a9, by omega, by go_num, by omega, L10.out⟩
            case measure => simp [intOf]; omega
          · go_wp2_with fail
            refine (lays_p LR hl (by omega) (by omega) (by omega) HPA.out (by omega) (by omega) (by omega)).mono ?_
            rintro e w8 ⟨bb, ms8, kd8, a8, rfl, h8⟩
            have L9 := Lib.hid h8.swap
            clear h8 LR
            go_wp2_with fail
            refine (lays_p L9 hl (by omega) (by omega) (by omega) HPB.out (by omega) (by omega) (by omega)).mono ?_
            rintro e w9 ⟨bb9, ms9, kd9, a9, rfl, h9⟩
            have L10 := Lib.hid h9.swap
            clear h9 L9
            go_wp2_with fail
            go_roundw
            case rel => exact ⟨i + 1, op + 1 + 1, ms9, kd9, a9, by omega, by go_num, by omega, L10.out⟩
            case measure => simp [intOf]; omega
        · obtain rfl : i = n := by omega
          have M8 := Lib.hid LR.out.p.mem
          have B8 := Lib.hid LR.out.b
          have ML := Lib.hid LR.out.ml
          have PA := Lib.hid LR.out.pa
          have PB := Lib.hid LR.out.pb
          clear LR
          go_upto_region 20 with fail
          go_cut [15, 16] (fun v15 v16 wx => ∃ gc gd, v15 = .pointer (some ⟨gc, 0, none⟩) ∧ v16 = .pointer (some ⟨gd, 0, none⟩) ∧ Cops wb wx mg mh gc A0 0 gd A1 0 i (3 + zz) ms op kd a pa pb (.slice none 0 0) (.slice none 0 0) [] [])
          case first =>
            have kw : IntKind.i64.wrap ((K : Int) - 1) = (K : Int) - 1 := by rw [IntKind.wrap_i64]; omega
            refine wp_region_noPanic ?_
            refine wp_region_held_drew (S := fun w' => w'.cell? ⟨xb, 0, none⟩ = some (.int .i64 3) ∧ w'.cell? ⟨xb, 1, none⟩ = some (.int .i64 (W : Int)) ∧ w'.cell? ⟨xb, 2, none⟩ = some (.int .i64 (K : Int)) ∧ w'.cell? ⟨nb, 0, none⟩ = some (.int .i64 (i : Int))) (by kernel_rfl) (S4.out _ (below_two B8.out (Below.refl _ wr).drew)) (fun hHeld => ?_)
            have M9 := Lib.hid (M8.out.next (Below.refl _ wr).drew)
            have B9 := Lib.hid (below_two B8.out (Below.refl _ wr).drew)
            generalize wr.drew = x0 at *
            refine wpAnyH_take (i := 0) (v := .pointer (some ⟨mg, 0, none⟩)) rfl (by kernel_rfl) (by kernel_rfl) (by kernel_rfl) (fun _ _ _ h => h) (Or.inl ⟨by rfl, fun w hSw => by go_simp⟩) (by assumption) ?_
            change wpAnyH _ _ _ _ _ _ _ (Act.put _ (some 88) _) _
            simp only [Act.put, List.setIfInBounds_toArray, List.set_cons_zero, List.set_cons_succ]
            refine wpAnyH_take (i := 1) (v := .agg #[.int .i64 3, .int .i64 (W : Int), .int .i64 (K : Int)]) rfl (by kernel_rfl) (by kernel_rfl) (by kernel_rfl) (fun _ _ _ h => h) (Or.inl ⟨by rfl, fun w hSw => by obtain ⟨s0, s1, s2, s3⟩ := hSw; go_simp⟩) (by assumption) ?_
            change wpAnyH _ _ _ _ _ _ _ (Act.put _ (some 89) _) _
            simp only [Act.put, List.setIfInBounds_toArray, List.set_cons_zero, List.set_cons_succ]
            refine wpAnyH_take (i := 2) (v := .int .i64 (K : Int)) rfl (by kernel_rfl) (by kernel_rfl) (by kernel_rfl) (fun _ _ _ h => h) (Or.inl ⟨by rfl, fun w hSw => by go_simp⟩) (by assumption) ?_
            change wpAnyH _ _ _ _ _ _ _ (Act.put _ (some 90) _) _
            simp only [Act.put, List.setIfInBounds_toArray, List.set_cons_zero, List.set_cons_succ]
            refine wpAnyH_take (i := 3) (v := .int .i64 ((K : Int) - 1)) rfl (by kernel_rfl) (by kernel_rfl) (by kernel_rfl) (fun _ _ _ h => h) (Or.inl ⟨by rfl, fun w hSw => by go_simp⟩) (by assumption) ?_
            change wpAnyH _ _ _ _ _ _ _ (Act.put _ (some 91) _) _
            simp only [Act.put, List.setIfInBounds_toArray, List.set_cons_zero, List.set_cons_succ]
            refine wpAnyH_take (i := 5) (v := .int .i64 (i : Int)) rfl (by kernel_rfl) (by kernel_rfl) (by kernel_rfl) (fun _ _ _ h => h) (Or.inl ⟨by rfl, fun w hSw => by obtain ⟨s0, s1, s2, s3⟩ := hSw; go_simp⟩) (by assumption) ?_
            change wpAnyH _ _ _ _ _ _ _ (Act.put _ (some 93) _) _
            simp only [Act.put, List.setIfInBounds_toArray, List.set_cons_zero, List.set_cons_succ]
            refine wpAnyH_take (i := 7) (v := .pointer (some ⟨mg, 0, none⟩)) rfl (by kernel_rfl) (by kernel_rfl) (by kernel_rfl) (fun _ _ _ h => h) (Or.inl ⟨by rfl, fun w hSw => by go_simp⟩) (by assumption) ?_
            change wpAnyH _ _ _ _ _ _ _ (Act.put _ (some 95) _) _
            simp only [Act.put, List.setIfInBounds_toArray, List.set_cons_zero, List.set_cons_succ]
            refine wpAnyH_take (i := 8) (v := .agg #[.int .i64 3, .int .i64 (W : Int), .int .i64 (K : Int)]) rfl (by kernel_rfl) (by kernel_rfl) (by kernel_rfl) (fun _ _ _ h => h) (Or.inl ⟨by rfl, fun w hSw => by obtain ⟨s0, s1, s2, s3⟩ := hSw; go_simp⟩) (by assumption) ?_
            change wpAnyH _ _ _ _ _ _ _ (Act.put _ (some 96) _) _
            simp only [Act.put, List.setIfInBounds_toArray, List.set_cons_zero, List.set_cons_succ]
            refine wpAnyH_take (i := 9) (v := .int .i64 (K : Int)) rfl (by kernel_rfl) (by kernel_rfl) (by kernel_rfl) (fun _ _ _ h => h) (Or.inl ⟨by rfl, fun w hSw => by go_simp⟩) (by assumption) ?_
            change wpAnyH _ _ _ _ _ _ _ (Act.put _ (some 97) _) _
            simp only [Act.put, List.setIfInBounds_toArray, List.set_cons_zero, List.set_cons_succ]
            refine wpAnyH_take (i := 10) (v := .int .i64 ((K : Int) - 1)) rfl (by kernel_rfl) (by kernel_rfl) (by kernel_rfl) (fun _ _ _ h => h) (Or.inl ⟨by rfl, fun w hSw => by go_simp⟩) (by assumption) ?_
            change wpAnyH _ _ _ _ _ _ _ (Act.put _ (some 98) _) _
            simp only [Act.put, List.setIfInBounds_toArray, List.set_cons_zero, List.set_cons_succ]
            refine wpAnyH_take (i := 12) (v := .int .i64 (i : Int)) rfl (by kernel_rfl) (by kernel_rfl) (by kernel_rfl) (fun _ _ _ h => h) (Or.inl ⟨by rfl, fun w hSw => by obtain ⟨s0, s1, s2, s3⟩ := hSw; go_simp⟩) (by assumption) ?_
            change wpAnyH _ _ _ _ _ _ _ (Act.put _ (some 100) _) _
            simp only [Act.put, List.setIfInBounds_toArray, List.set_cons_zero, List.set_cons_succ]
            clear hHeld
            refine wpAnyH_ready (rs := [4]) (by kernel_rfl) (by simp) ?_
            refine AllReadyH.cons rfl (fun KK hK => ?_) AllReadyH.nil
            go_simp
            refine (AT0.out _).mono ?_
            rintro e x1 ⟨rfl, hb⟩
            have B10 := Lib.hid (below_two B9.out hb)
            have M10 := Lib.hid (M9.out.next hb)
            clear hb
            go_wp2_with fail
            refine hK.out _ _ (S4.out _ B10.out) (fun hHeld => ?_)
            clear hK KK hHeld
            refine wpAnyH_ready (rs := [6]) (by kernel_rfl) (by simp) ?_
            refine AllReadyH.cons rfl (fun KK hK => ?_) AllReadyH.nil
            go_simp
            refine (copy_any mg mh _ (A0 : Int) i _ M10.out (by omega)).mono ?_
            rintro e x2 ⟨rfl, hC, hb⟩
            have B11 := Lib.hid (below_two B10.out hb)
            have C11 := Lib.hid hC
            have M11 := Lib.hid hC.mem
            have q1 := B10.out.size
            have q2 := hC.lt
            have q3 := M10.out.lt
            generalize x1.heap.size = gc at *
            clear hb hC
            go_wp2_with fail
            refine hK.out _ _ (S4.out _ B11.out) (fun hHeld => ?_)
            clear hK KK hHeld
            refine wpAnyH_ready (rs := [11]) (by kernel_rfl) (by simp) ?_
            refine AllReadyH.cons rfl (fun KK hK => ?_) AllReadyH.nil
            go_simp
            refine (AT1.out _).mono ?_
            rintro e x3 ⟨rfl, hb⟩
            have B12 := Lib.hid (below_two B11.out hb)
            have M12 := Lib.hid (M11.out.next hb)
            have C12 := Lib.hid (C11.out.next hb)
            have q4 := hb.size
            clear hb
            go_wp2_with fail
            refine hK.out _ _ (S4.out _ B12.out) (fun hHeld => ?_)
            clear hK KK hHeld
            refine wpAnyH_ready (rs := [13]) (by kernel_rfl) (by simp) ?_
            refine AllReadyH.cons rfl (fun KK hK => ?_) AllReadyH.nil
            go_simp
            refine (copy_any mg mh _ (A1 : Int) i _ M12.out (by omega)).mono ?_
            rintro e x4 ⟨rfl, hC, hb⟩
            have B13 := Lib.hid (below_two B12.out hb)
            have C13 := Lib.hid (C12.out.next hb)
            have D13 := Lib.hid hC
            have q5 := B12.out.size
            generalize x3.heap.size = gd at *
            clear hb hC
            go_wp2_with fail
            refine hK.out _ _ (S4.out _ B13.out) (fun hHeld => ?_)
            clear hK KK
            refine wpAnyH_take (i := 14) (v := .pointer (some ⟨gc, 0, none⟩)) rfl (by kernel_rfl) (by kernel_rfl) (by kernel_rfl) (fun _ _ _ h => h) (Or.inl ⟨by rfl, fun w hSw => by go_simp⟩) (by assumption) ?_
            change wpAnyH _ _ _ _ _ _ _ (Act.put _ (some 15) _) _
            simp only [Act.put, List.setIfInBounds_toArray, List.set_cons_zero, List.set_cons_succ]
            refine wpAnyH_take (i := 15) (v := .pointer (some ⟨gd, 0, none⟩)) rfl (by kernel_rfl) (by kernel_rfl) (by kernel_rfl) (fun _ _ _ h => h) (Or.inl ⟨by rfl, fun w hSw => by go_simp⟩) (by assumption) ?_
            change wpAnyH _ _ _ _ _ _ _ (Act.put _ (some 16) _) _
            simp only [Act.put, List.setIfInBounds_toArray, List.set_cons_zero, List.set_cons_succ]
            have CZ : Hid (Cops wb x4 mg mh gc A0 0 gd A1 0 i (3 + zz) ms op kd a pa pb (.slice none 0 0) (.slice none 0 0) [] []) :=
              ⟨C13.out, D13.out, rfl, rfl, fun t ht => absurd ht (by omega), fun t ht => absurd ht (by omega), fun _ h => by (cases h), fun _ h => by (cases h), ML.out, PA.out, PB.out, ⟨fun hm => by simp [copL_mem, Value.ownBlock] at hm; omega, fun k hk => by (cases hk)⟩, ⟨fun hm => by simp [copL_mem, Value.ownBlock] at hm; omega, fun k hk => by (cases hk)⟩, fun k hk => by simp [copL_mem, Value.ownBlock] at hk; omega, B13.out⟩
            refine wpAnyH_done (by kernel_rfl) ?_ _
            refine NoPanic.normal ?_
            go_wp2_with fail
            go_meet
            case rel => exact ⟨gc, gd, rfl, rfl, CZ.out⟩
          case rest =>
            obtain ⟨gc, gd, rfl, rfl, hC⟩ := hcut
            have C9 := Lib.hid hC
            clear hC M8 B8
            obtain ⟨d0, d1, d2, d3⟩ := S4.out _ C9.out.b
            go_wp2_with fail
            clear d0 d1 d2 d3
            go_loopw [103] (fun u wq => ∃ (t op2 : Nat) (kd a : Int) (v v2 : Value) (xs ys : List Nat), t ≤ i ∧ u = .int .i64 t ∧ op2 = op + 2 * t ∧ Cops wb wq mg mh gc A0 t gd A1 t i (3 + zz) ms op2 kd a pa pb v v2 xs ys) (fun u _ => i - (intOf u).toNat)
            case atStart => exact ⟨0, op, _, _, _, _, _, _, Nat.zero_le _, rfl, rfl, C9.out⟩
            case round =>
              obtain ⟨t, op2, kd, a, v, v2, xs, ys, ht, rfl, hop2, hC⟩ := hrel
              have CQ := Lib.hid hC
              clear hC C9
              by_cases hl2 : t < i
              · have l3 : (t : Int) < (i : Int) := by omega
                go_wp2_with fail
                refine (cops_c CQ hl2 (by omega) (by omega) (by omega) HPA.out (by omega)).mono ?_
                rintro e w8 ⟨bb, kd8, a8, v8, xs8, rfl, h8⟩
                have C8 := Lib.hid h8.swap
                clear h8 CQ
                go_wp2_with fail
                refine (cops_c C8 hl2 (by omega) (by omega) (by omega) HPB.out (by omega)).mono ?_
                rintro e w9 ⟨bb9, kd9, a9, v9, ys9, rfl, h9⟩
                have C10 := Lib.hid h9.swap
                clear h9 C8
                go_wp2_with fail
                go_roundw
                case rel => exact ⟨t + 1, op2 + 1 + 1, _, _, _, _, _, _, by omega, by go_num, by omega, C10.out⟩
                case measure => simp [intOf]; omega
              · obtain rfl : t = i := by omega
                have XE := Lib.hid (list_is CQ.out.xl CQ.out.xe)
                have YE := Lib.hid (list_is CQ.out.yl CQ.out.ye)
                have CW := Lib.hid fun w1 (h1 : Cops wb w1 mg mh gc A0 t gd A1 t t (3 + zz) ms op2 kd a pa pb v v2 xs ys) => cwords_any gc mg mh _ _ _ v xs w1 h1.c h1.xw (by rw [h1.xl]; omega)
                have DW := Lib.hid fun w1 (h1 : Cops wb w1 mg mh gc A0 t gd A1 t t (3 + zz) ms op2 kd a pa pb v v2 xs ys) => cwords_any gd mg mh _ _ _ v2 ys w1 h1.d h1.yw (by rw [h1.yl]; omega)
                rw [CQ.out.xl] at CW
                rw [CQ.out.yl] at DW
                rw [XE.out] at CW
                rw [YE.out] at DW
                rw [XE.out, YE.out] at CQ
                rw [YE.out] at CW
                rw [XE.out] at DW
                clear XE YE
                go_wp2_with fail
                refine (CW.out _ CQ.out).mono ?_
                rintro e w8 ⟨ub, rfl, hu, hul, hb⟩
                have C8 := Lib.hid (CQ.out.next hb)
                have U8 := Lib.hid hu
                clear hb hu CQ CW
                go_wp2_with fail
                refine (DW.out _ C8.out).mono ?_
                rintro e w9 ⟨vb, rfl, hv, hvl, hb⟩
                have M9 := Lib.hid (C8.out.next hb).c.mem
                have B9 := Lib.hid (C8.out.next hb).b
                have U9 := Lib.hid ((hb.block ub (heap_lt U8.out)).trans U8.out)
                have V9 := Lib.hid hv
                clear hb hv C8 U8 DW hul hvl
                obtain ⟨d0, d1, d2, d3⟩ := S4.out _ B9.out
                go_wp2_with fail
                clear d0 d1 d2 d3
                go_loopw [115] (fun u wq => ∃ (q : Nat), q ≤ t ∧ u = .int .i64 q ∧ MemAt wq mg mh ⟨ms, op2, 0, kd, a⟩ ∧ wq.heap[ub]? = some (.cells (wordsOf (listOf pa t)) 35 (0, 0)) ∧ wq.heap[vb]? = some (.cells (wordsOf (listOf pb t)) 35 (0, 0)) ∧ Below wb.heap.size wb wq) (fun u _ => t - (intOf u).toNat)
                case atStart => exact ⟨0, Nat.zero_le _, rfl, M9.out, U9.out, V9.out, B9.out⟩
                case round =>
                  obtain ⟨q, hq, rfl, hm, hu, hv, hb⟩ := hrel
                  have MQ := Lib.hid hm
                  have UQ := Lib.hid hu
                  have VQ := Lib.hid hv
                  have BQ := Lib.hid hb
                  clear hm hu hv hb M9 U9 V9 B9
                  by_cases hl3 : q < t
                  · have l4 : (q : Int) < (t : Int) := by omega
                    have l5 : decide ((t : Int) ≤ (q : Int)) = false := by simp; omega
                    have GU := Lib.hid fun (wx : World) (h : wx.heap[ub]? = some (.cells (wordsOf (listOf pa t)) 35 (0, 0))) => block_at8 h hl3
                    have GV := Lib.hid fun (wx : World) (h : wx.heap[vb]? = some (.cells (wordsOf (listOf pb t)) 35 (0, 0))) => block_at8 h hl3
                    have GA := Lib.hid fun (wx : World) (bx : Nat) (h : wx.heap[bx]? = some (.cells (wordsOf (listOf pa t)) 35 (0, 0))) => block_at8 h hl3
                    have GB := Lib.hid fun (wx : World) (bx : Nat) (h : wx.heap[bx]? = some (.cells (wordsOf (listOf pb t)) 35 (0, 0))) => block_at8 h hl3
                    generalize pa q = xa at *
                    generalize pb q = xb2 at *
                    go_upto_region 30 with fail
                    go_cut [153] from 116 to 154 (fun v153 wx => v153 = .bool false ∧ MemAt wx mg mh ⟨ms, op2, 0, kd, a⟩ ∧ wx.heap[ub]? = some (.cells (wordsOf (listOf pa t)) 35 (0, 0)) ∧ wx.heap[vb]? = some (.cells (wordsOf (listOf pb t)) 35 (0, 0)) ∧ Below wb.heap.size wb wx)
                    case first =>
                      refine wp_region_noPanic ?_
                      refine wp_region_held_drew (S := fun w' => w'.cell? ⟨ub, q, none⟩ = some (.int .u64 (xa : Int)) ∧ w'.cell? ⟨vb, q, none⟩ = some (.int .u64 (xb2 : Int))) (by kernel_rfl) ⟨GU.out wr UQ.out, GV.out wr VQ.out⟩ (fun hHeld => ?_)
                      have M10 := Lib.hid (MQ.out.next (Below.refl _ wr).drew)
                      have U10 : Hid (wr.drew.heap[ub]? = some (.cells (wordsOf (listOf pa t)) 35 (0, 0))) := UQ.out
                      have V10 : Hid (wr.drew.heap[vb]? = some (.cells (wordsOf (listOf pb t)) 35 (0, 0))) := VQ.out
                      have B10 := Lib.hid (below_two BQ.out (Below.refl _ wr).drew)
                      generalize wr.drew = x0 at *
                      refine wpAnyH_take (i := 0) (v := .int .i64 (q : Int)) rfl (by kernel_rfl) (by kernel_rfl) (by kernel_rfl) (fun _ _ _ h => h) (Or.inl ⟨by rfl, fun w hSw => by go_simp⟩) (by assumption) ?_
                      change wpAnyH _ _ _ _ _ _ _ (Act.put _ (some 118) _) _
                      simp only [Act.put, List.setIfInBounds_toArray, List.set_cons_zero, List.set_cons_succ]
                      refine wpAnyH_take (i := 1) (v := .slice (some ⟨ub, 0, none⟩) t t) rfl (by kernel_rfl) (by kernel_rfl) (by kernel_rfl) (fun _ _ _ h => h) (Or.inl ⟨by rfl, fun w hSw => by go_simp⟩) (by assumption) ?_
                      change wpAnyH _ _ _ _ _ _ _ (Act.put _ (some 119) _) _
                      simp only [Act.put, List.setIfInBounds_toArray, List.set_cons_zero, List.set_cons_succ]
                      refine wpAnyH_take (i := 2) (v := .int .i64 (t : Int)) rfl (by kernel_rfl) (by kernel_rfl) (by kernel_rfl) (fun _ _ _ h => h) (Or.inl ⟨by rfl, fun w hSw => by go_simp⟩) (by assumption) ?_
                      change wpAnyH _ _ _ _ _ _ _ (Act.put _ (some 120) _) _
                      simp only [Act.put, List.setIfInBounds_toArray, List.set_cons_zero, List.set_cons_succ]
                      refine wpAnyH_take (i := 3) (v := .bool false) rfl (by kernel_rfl) (by kernel_rfl) (by kernel_rfl) (fun _ _ _ h => h) (Or.inl ⟨by rfl, fun w hSw => by go_simp⟩) (by assumption) ?_
                      change wpAnyH _ _ _ _ _ _ _ (Act.put _ (some 121) _) _
                      simp only [Act.put, List.setIfInBounds_toArray, List.set_cons_zero, List.set_cons_succ]
                      refine wpAnyH_take (i := 4) (v := .bool false) rfl (by kernel_rfl) (by kernel_rfl) (by kernel_rfl) (fun _ _ _ h => h) (Or.inl ⟨by rfl, fun w hSw => by go_simp⟩) (by assumption) ?_
                      change wpAnyH _ _ _ _ _ _ _ (Act.put _ (some 122) _) _
                      simp only [Act.put, List.setIfInBounds_toArray, List.set_cons_zero, List.set_cons_succ]
                      refine wpAnyH_take (i := 5) (v := .int .i64 (q : Int)) rfl (by kernel_rfl) (by kernel_rfl) (by kernel_rfl) (fun _ _ _ h => h) (Or.inl ⟨by rfl, fun w hSw => by go_simp⟩) (by assumption) ?_
                      change wpAnyH _ _ _ _ _ _ _ (Act.put _ (some 123) _) _
                      simp only [Act.put, List.setIfInBounds_toArray, List.set_cons_zero, List.set_cons_succ]
                      refine wpAnyH_take (i := 6) (v := .slice (some ⟨vb, 0, none⟩) t t) rfl (by kernel_rfl) (by kernel_rfl) (by kernel_rfl) (fun _ _ _ h => h) (Or.inl ⟨by rfl, fun w hSw => by go_simp⟩) (by assumption) ?_
                      change wpAnyH _ _ _ _ _ _ _ (Act.put _ (some 124) _) _
                      simp only [Act.put, List.setIfInBounds_toArray, List.set_cons_zero, List.set_cons_succ]
                      refine wpAnyH_take (i := 7) (v := .int .i64 (t : Int)) rfl (by kernel_rfl) (by kernel_rfl) (by kernel_rfl) (fun _ _ _ h => h) (Or.inl ⟨by rfl, fun w hSw => by go_simp⟩) (by assumption) ?_
                      change wpAnyH _ _ _ _ _ _ _ (Act.put _ (some 125) _) _
                      simp only [Act.put, List.setIfInBounds_toArray, List.set_cons_zero, List.set_cons_succ]
                      refine wpAnyH_take (i := 8) (v := .bool false) rfl (by kernel_rfl) (by kernel_rfl) (by kernel_rfl) (fun _ _ _ h => h) (Or.inl ⟨by rfl, fun w hSw => by go_simp⟩) (by assumption) ?_
                      change wpAnyH _ _ _ _ _ _ _ (Act.put _ (some 126) _) _
                      simp only [Act.put, List.setIfInBounds_toArray, List.set_cons_zero, List.set_cons_succ]
                      refine wpAnyH_take (i := 9) (v := .bool false) rfl (by kernel_rfl) (by kernel_rfl) (by kernel_rfl) (fun _ _ _ h => h) (Or.inl ⟨by rfl, fun w hSw => by go_simp⟩) (by assumption) ?_
                      change wpAnyH _ _ _ _ _ _ _ (Act.put _ (some 127) _) _
                      simp only [Act.put, List.setIfInBounds_toArray, List.set_cons_zero, List.set_cons_succ]
                      refine wpAnyH_take (i := 10) (v := .bool false) rfl (by kernel_rfl) (by kernel_rfl) (by kernel_rfl) (fun _ _ _ h => h) (Or.inl ⟨by rfl, fun w hSw => by go_simp⟩) (by assumption) ?_
                      change wpAnyH _ _ _ _ _ _ _ (Act.put _ (some 128) _) _
                      simp only [Act.put, List.setIfInBounds_toArray, List.set_cons_zero, List.set_cons_succ]
                      refine wpAnyH_take (i := 11) (v := .slice (some ⟨ub, 0, none⟩) t t) rfl (by kernel_rfl) (by kernel_rfl) (by kernel_rfl) (fun _ _ _ h => h) (Or.inl ⟨by rfl, fun w hSw => by go_simp⟩) (by assumption) ?_
                      change wpAnyH _ _ _ _ _ _ _ (Act.put _ (some 129) _) _
                      simp only [Act.put, List.setIfInBounds_toArray, List.set_cons_zero, List.set_cons_succ]
                      refine wpAnyH_take (i := 12) (v := .int .i64 (q : Int)) rfl (by kernel_rfl) (by kernel_rfl) (by kernel_rfl) (fun _ _ _ h => h) (Or.inl ⟨by rfl, fun w hSw => by go_simp⟩) (by assumption) ?_
                      change wpAnyH _ _ _ _ _ _ _ (Act.put _ (some 130) _) _
                      simp only [Act.put, List.setIfInBounds_toArray, List.set_cons_zero, List.set_cons_succ]
                      refine wpAnyH_take (i := 13) (v := .pointer (some ⟨ub, q, none⟩)) rfl (by kernel_rfl) (by kernel_rfl) (by kernel_rfl) (fun _ _ _ h => h) (Or.inl ⟨by rfl, fun w hSw => by go_simp⟩) (by assumption) ?_
                      change wpAnyH _ _ _ _ _ _ _ (Act.put _ (some 131) _) _
                      simp only [Act.put, List.setIfInBounds_toArray, List.set_cons_zero, List.set_cons_succ]
                      refine wpAnyH_take (i := 14) (v := .int .u64 (xa : Int)) rfl (by kernel_rfl) (by kernel_rfl) (by kernel_rfl) (fun _ _ _ h => h) (Or.inl ⟨by rfl, fun w hSw => by obtain ⟨s0, s1⟩ := hSw; go_simp⟩) (by assumption) ?_
                      change wpAnyH _ _ _ _ _ _ _ (Act.put _ (some 132) _) _
                      simp only [Act.put, List.setIfInBounds_toArray, List.set_cons_zero, List.set_cons_succ]
                      refine wpAnyH_take (i := 15) (v := .func (.func 29) #[] #[.pointer (some ⟨nb, 0, none⟩)]) rfl (by kernel_rfl) (by kernel_rfl) (by kernel_rfl) (fun _ _ _ h => h) (Or.inl ⟨by rfl, fun w hSw => by go_simp⟩) (by assumption) ?_
                      change wpAnyH _ _ _ _ _ _ _ (Act.put _ (some 133) _) _
                      simp only [Act.put, List.setIfInBounds_toArray, List.set_cons_zero, List.set_cons_succ]
                      refine wpAnyH_take (i := 16) (v := .slice aa la ca) rfl (by kernel_rfl) (by kernel_rfl) (by kernel_rfl) (fun _ _ _ h => h) (Or.inl ⟨by rfl, fun w hSw => by go_simp⟩) (by assumption) ?_
                      change wpAnyH _ _ _ _ _ _ _ (Act.put _ (some 134) _) _
                      simp only [Act.put, List.setIfInBounds_toArray, List.set_cons_zero, List.set_cons_succ]
                      refine wpAnyH_take (i := 18) (v := .int .i64 (q : Int)) rfl (by kernel_rfl) (by kernel_rfl) (by kernel_rfl) (fun _ _ _ h => h) (Or.inl ⟨by rfl, fun w hSw => by go_simp⟩) (by assumption) ?_
                      change wpAnyH _ _ _ _ _ _ _ (Act.put _ (some 136) _) _
                      simp only [Act.put, List.setIfInBounds_toArray, List.set_cons_zero, List.set_cons_succ]
                      clear hHeld
                      refine wpAnyH_ready (rs := [17]) (by kernel_rfl) (by simp) ?_
                      refine AllReadyH.cons rfl (fun KK hK => ?_) AllReadyH.nil
                      go_simp
                      refine (RA.out _ B10.out).mono ?_
                      rintro e x1 ⟨ba, rfl, hba, hbl, hb⟩
                      have B11 := Lib.hid (below_two B10.out hb)
                      have M11 := Lib.hid (M10.out.next hb)
                      have U11 := Lib.hid ((hb.block ub (heap_lt U10.out)).trans U10.out)
                      have V11 := Lib.hid ((hb.block vb (heap_lt V10.out)).trans V10.out)
                      have ca11 := GA.out _ ba hba
                      clear hb hba hbl
                      go_wp2_with fail
                      refine hK.out _ _ (⟨GU.out _ U11.out, GV.out _ V11.out⟩) (fun hHeld => ?_)
                      clear hK KK
                      refine wpAnyH_take (i := 19) (v := .pointer (some ⟨ba, q, none⟩)) rfl (by kernel_rfl) (by kernel_rfl) (by kernel_rfl) (fun _ _ _ h => h) (Or.inl ⟨by rfl, fun w hSw => by go_simp⟩) (by assumption) ?_
                      change wpAnyH _ _ _ _ _ _ _ (Act.put _ (some 137) _) _
                      simp only [Act.put, List.setIfInBounds_toArray, List.set_cons_zero, List.set_cons_succ]
                      clear hHeld
                      refine wpAnyH_ready (rs := [20]) (by kernel_rfl) (by simp) ?_
                      refine AllReadyH.cons rfl (fun KK hK => ?_) AllReadyH.nil
                      go_simp
                      refine hK.out _ _ ⟨GU.out _ U11.out, GV.out _ V11.out⟩ (fun hHeld => ?_)
                      clear hK KK ca11
                      refine wpAnyH_take (i := 21) (v := .bool false) rfl (by kernel_rfl) (by kernel_rfl) (by kernel_rfl) (fun _ _ _ h => h) (Or.inl ⟨by rfl, fun w hSw => by go_simp⟩) (by assumption) ?_
                      change wpAnyH _ _ _ _ _ _ _ (Act.put _ (some 139) _) _
                      simp only [Act.put, List.setIfInBounds_toArray, List.set_cons_zero, List.set_cons_succ]
                      refine wpAnyH_take (i := 22) (v := .bool false) rfl (by kernel_rfl) (by kernel_rfl) (by kernel_rfl) (fun _ _ _ h => h) (Or.inl ⟨by rfl, fun w hSw => by go_simp⟩) (by assumption) ?_
                      change wpAnyH _ _ _ _ _ _ _ (Act.put _ (some 140) _) _
                      simp only [Act.put, List.setIfInBounds_toArray, List.set_cons_zero, List.set_cons_succ]
                      refine wpAnyH_take (i := 23) (v := .bool false) rfl (by kernel_rfl) (by kernel_rfl) (by kernel_rfl) (fun _ _ _ h => h) (Or.inl ⟨by rfl, fun w hSw => by go_simp⟩) (by assumption) ?_
                      change wpAnyH _ _ _ _ _ _ _ (Act.put _ (some 141) _) _
                      simp only [Act.put, List.setIfInBounds_toArray, List.set_cons_zero, List.set_cons_succ]
                      refine wpAnyH_take (i := 24) (v := .slice (some ⟨vb, 0, none⟩) t t) rfl (by kernel_rfl) (by kernel_rfl) (by kernel_rfl) (fun _ _ _ h => h) (Or.inl ⟨by rfl, fun w hSw => by go_simp⟩) (by assumption) ?_
                      change wpAnyH _ _ _ _ _ _ _ (Act.put _ (some 142) _) _
                      simp only [Act.put, List.setIfInBounds_toArray, List.set_cons_zero, List.set_cons_succ]
                      refine wpAnyH_take (i := 25) (v := .int .i64 (q : Int)) rfl (by kernel_rfl) (by kernel_rfl) (by kernel_rfl) (fun _ _ _ h => h) (Or.inl ⟨by rfl, fun w hSw => by go_simp⟩) (by assumption) ?_
                      change wpAnyH _ _ _ _ _ _ _ (Act.put _ (some 143) _) _
                      simp only [Act.put, List.setIfInBounds_toArray, List.set_cons_zero, List.set_cons_succ]
                      refine wpAnyH_take (i := 26) (v := .pointer (some ⟨vb, q, none⟩)) rfl (by kernel_rfl) (by kernel_rfl) (by kernel_rfl) (fun _ _ _ h => h) (Or.inl ⟨by rfl, fun w hSw => by go_simp⟩) (by assumption) ?_
                      change wpAnyH _ _ _ _ _ _ _ (Act.put _ (some 144) _) _
                      simp only [Act.put, List.setIfInBounds_toArray, List.set_cons_zero, List.set_cons_succ]
                      refine wpAnyH_take (i := 27) (v := .int .u64 (xb2 : Int)) rfl (by kernel_rfl) (by kernel_rfl) (by kernel_rfl) (fun _ _ _ h => h) (Or.inl ⟨by rfl, fun w hSw => by obtain ⟨s0, s1⟩ := hSw; go_simp⟩) (by assumption) ?_
                      change wpAnyH _ _ _ _ _ _ _ (Act.put _ (some 145) _) _
                      simp only [Act.put, List.setIfInBounds_toArray, List.set_cons_zero, List.set_cons_succ]
                      refine wpAnyH_take (i := 28) (v := .func (.func 29) #[] #[.pointer (some ⟨nb, 0, none⟩)]) rfl (by kernel_rfl) (by kernel_rfl) (by kernel_rfl) (fun _ _ _ h => h) (Or.inl ⟨by rfl, fun w hSw => by go_simp⟩) (by assumption) ?_
                      change wpAnyH _ _ _ _ _ _ _ (Act.put _ (some 146) _) _
                      simp only [Act.put, List.setIfInBounds_toArray, List.set_cons_zero, List.set_cons_succ]
                      refine wpAnyH_take (i := 29) (v := .slice ab lb cb) rfl (by kernel_rfl) (by kernel_rfl) (by kernel_rfl) (fun _ _ _ h => h) (Or.inl ⟨by rfl, fun w hSw => by go_simp⟩) (by assumption) ?_
                      change wpAnyH _ _ _ _ _ _ _ (Act.put _ (some 147) _) _
                      simp only [Act.put, List.setIfInBounds_toArray, List.set_cons_zero, List.set_cons_succ]
                      refine wpAnyH_take (i := 31) (v := .int .i64 (q : Int)) rfl (by kernel_rfl) (by kernel_rfl) (by kernel_rfl) (fun _ _ _ h => h) (Or.inl ⟨by rfl, fun w hSw => by go_simp⟩) (by assumption) ?_
                      change wpAnyH _ _ _ _ _ _ _ (Act.put _ (some 149) _) _
                      simp only [Act.put, List.setIfInBounds_toArray, List.set_cons_zero, List.set_cons_succ]
                      clear hHeld
                      refine wpAnyH_ready (rs := [30]) (by kernel_rfl) (by simp) ?_
                      refine AllReadyH.cons rfl (fun KK hK => ?_) AllReadyH.nil
                      go_simp
                      refine (RB.out _ B11.out).mono ?_
                      rintro e x2 ⟨bb, rfl, hbb, hbl, hb⟩
                      have B12 := Lib.hid (below_two B11.out hb)
                      have M12 := Lib.hid (M11.out.next hb)
                      have U12 := Lib.hid ((hb.block ub (heap_lt U11.out)).trans U11.out)
                      have V12 := Lib.hid ((hb.block vb (heap_lt V11.out)).trans V11.out)
                      have cb12 := GB.out _ bb hbb
                      clear hb hbb hbl
                      go_wp2_with fail
                      refine hK.out _ _ (⟨GU.out _ U12.out, GV.out _ V12.out⟩) (fun hHeld => ?_)
                      clear hK KK
                      refine wpAnyH_take (i := 32) (v := .pointer (some ⟨bb, q, none⟩)) rfl (by kernel_rfl) (by kernel_rfl) (by kernel_rfl) (fun _ _ _ h => h) (Or.inl ⟨by rfl, fun w hSw => by go_simp⟩) (by assumption) ?_
                      change wpAnyH _ _ _ _ _ _ _ (Act.put _ (some 150) _) _
                      simp only [Act.put, List.setIfInBounds_toArray, List.set_cons_zero, List.set_cons_succ]
                      clear hHeld
                      refine wpAnyH_ready (rs := [33]) (by kernel_rfl) (by simp) ?_
                      refine AllReadyH.cons rfl (fun KK hK => ?_) AllReadyH.nil
                      go_simp
                      refine hK.out _ _ ⟨GU.out _ U12.out, GV.out _ V12.out⟩ (fun hHeld => ?_)
                      clear hK KK cb12
                      refine wpAnyH_take (i := 34) (v := .bool false) rfl (by kernel_rfl) (by kernel_rfl) (by kernel_rfl) (fun _ _ _ h => h) (Or.inl ⟨by rfl, fun w hSw => by go_simp⟩) (by assumption) ?_
                      change wpAnyH _ _ _ _ _ _ _ (Act.put _ (some 152) _) _
                      simp only [Act.put, List.setIfInBounds_toArray, List.set_cons_zero, List.set_cons_succ]
                      refine wpAnyH_take (i := 35) (v := .bool false) rfl (by kernel_rfl) (by kernel_rfl) (by kernel_rfl) (fun _ _ _ h => h) (Or.inl ⟨by rfl, fun w hSw => by go_simp⟩) (by assumption) ?_
                      change wpAnyH _ _ _ _ _ _ _ (Act.put _ (some 153) _) _
                      simp only [Act.put, List.setIfInBounds_toArray, List.set_cons_zero, List.set_cons_succ]
                      refine wpAnyH_done (by kernel_rfl) ?_ _
                      refine NoPanic.normal ?_
                      go_wp2_with fail
                      go_meet
                      case rel => exact ⟨rfl, M12.out, U12.out, V12.out, B12.out⟩
                    case rest =>
                      obtain ⟨rfl, hm, hu, hv, hb⟩ := hcut
                      have M10 := Lib.hid hm
                      have U10 := Lib.hid hu
                      have V10 := Lib.hid hv
                      have B10 := Lib.hid hb
                      clear hm hu hv hb
                      go_wp2_with fail
                      go_roundw
                      case rel => exact ⟨q + 1, by omega, by go_num, M10.out, U10.out, V10.out, B10.out⟩
                      case measure => simp [intOf]; omega
                  · obtain rfl : q = t := by omega
                    obtain ⟨d0, d1, d2, d3⟩ := S4.out _ BQ.out
                    go_wp2_with fail
                    refine (faults_any mg mh _ _ MQ.out).mono ?_
                    rintro e w' ⟨rfl, rfl⟩
                    go_wp2_with fail
                    go_ret
                    exact ⟨rfl, by first | exact HBb.out _ BQ.out | (rw [hN]; exact HBb.out _ BQ.out)⟩

end Go.Proofs.Ytlpaijobcopbnaa
