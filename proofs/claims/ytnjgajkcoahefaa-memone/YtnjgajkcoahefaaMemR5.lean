/-
  Contract of the statements' own 'do' of layer 3 at an access.
-/
import Derived.Test.YtnjgajkcoahefaaMemR4
namespace Go.Proofs.Ytnjgajkcoahefaa
open Go.RowKit

/-- What 'do' answers to an access. -/
def DoDone (w : World) (g h n : Nat) (s r : MSt) (k a : Int) (x old : Nat) (e : Ending) (w' : World) : Prop :=
  ∃ b cap, e = .returned (.tuple #[.agg #[.slice (some ⟨b, 0, none⟩) n cap, .int .i64 (doSt r k a x old).ops, .int .i64 (doSt r k a x old).faults], .bool (doX s k a == doX r k a && doB s k a old == doB r k a old)]) ∧
    MemAt w' g h (doSt s k a x old) ∧ WRow w' (.slice (some ⟨b, 0, none⟩) n cap) (doSt r k a x old).ws ∧ b ≠ g ∧ b ≠ h ∧ Else g h w w'
theorem dodone {w w' : World} {g h n : Nat} {s r : MSt} {k a : Int} {x old b cap : Nat} {o f : Int} {z : Bool} (ho : o = (doSt r k a x old).ops) (hf : f = (doSt r k a x old).faults) (hz : z = (doX s k a == doX r k a && doB s k a old == doB r k a old))
    (m : MemAt w' g h (doSt s k a x old)) (hW : WRow w' (.slice (some ⟨b, 0, none⟩) n cap) (doSt r k a x old).ws) (hg : b ≠ g) (hh : b ≠ h) (e : Else g h w w') :
    DoDone w g h n s r k a x old (.returned (.tuple #[.agg #[.slice (some ⟨b, 0, none⟩) n cap, .int .i64 o, .int .i64 f], .bool z])) w' := by
  subst ho hf hz
  exact ⟨b, cap, rfl, m, hW, hg, hh, e⟩

theorem set3_keep {w : World} {B k j : Nat} {v : Value} (hk : k ≠ B) (x y z : Value) (h : w.cell? ⟨k, j, none⟩ = some v) : (((w.setCell ⟨B, 0, none⟩ x).setCell ⟨B, 1, none⟩ y).setCell ⟨B, 2, none⟩ z).cell? ⟨k, j, none⟩ = some v := (set3_cell hk x y z).trans h
theorem do_kind {s : MSt} {k a : Int} {x old : Nat} (hk : k = 1 ∨ k = 2 ∨ k = 3 ∨ k = 4 ∨ k = 5) : (doSt s k a x old).kind = k ∧ (doSt s k a x old).at_ = a := by
  rcases hk with rfl | rfl | rfl | rfl | rfl
  · rw [doSt_1]; exact ⟨rfl, rfl⟩
  · rw [doSt_2]; exact ⟨rfl, rfl⟩
  · rw [doSt_3]; exact ⟨rfl, rfl⟩
  · rw [doSt_4]; unfold MSt.swung; split <;> exact ⟨rfl, rfl⟩
  · rw [doSt_5]; exact ⟨rfl, rfl⟩
theorem last_do (g h : Nat) (s : MSt) (k a : Int) (x old : Nat) (w : World) (hk : k = 1 ∨ k = 2 ∨ k = 3 ∨ k = 4 ∨ k = 5) (m : MemAt w g h (doSt s k a x old)) :
    Calls Try.prog 41 #[.pointer (some ⟨g, 0, none⟩)] w fun e w' => e = .returned (.agg #[.int .i64 k, .int .i64 a]) ∧ Below w.heap.size w w' := by
  have := last_any g h _ w m
  rw [(do_kind hk).1, (do_kind hk).2] at this
  exact this
theorem DoB.nextD {w00 w w' : World} {N g h : Nat} {s : MSt} {b n cap : Nat} {rws : List Nat} {o f : Int} {k a : Int} {x old : Nat} (d : DoB w00 w N g h s b n cap rws o f k a x old) (hb : Below w.drew.heap.size w.drew w') : DoB w00 w' N g h s b n cap rws o f k a x old :=
  have e : Else g h w w' := ⟨hb.os, hb.tape, hb.output, hb.size, fun k hk _ _ => hb.block k hk⟩
  d.next e ((MemAt.drew d.mem).next hb)

set_option maxRecDepth 20000 in
set_option maxHeartbeats 4000000 in
theorem do_acc (g h b n cap : Nat) (s r : MSt) (o f k a : Int) (x old : Nat) (w : World) (hn2 : n ≤ 255) (hk : Hid (k = 1 ∨ k = 2 ∨ k = 3 ∨ k = 4 ∨ k = 5)) (so : s.ops < 4611686018427387904) (sf : s.faults < 4611686018427387904) (ho1 : 0 ≤ o) (ho2 : o < 4611686018427387904) (hf1 : 0 ≤ f) (hf2 : f < 4611686018427387904) (HO : Hid (o = (r.ops : Int))) (HF : Hid (f = (r.faults : Int)))
    (m : Hid (MemAt w g h s)) (hr : Hid (WRow w (.slice (some ⟨b, 0, none⟩) n cap) r.ws)) (hw : Hid (n = r.ws.length)) (hbg : b ≠ g) (hbh : b ≠ h) :
    Calls Try.prog 18 #[.pointer (some ⟨g, 0, none⟩), .agg #[.slice (some ⟨b, 0, none⟩) n cap, .int .i64 o, .int .i64 f], .agg #[.int .i64 k, .int .i64 a, .int .u64 x, .int .u64 old]] w (DoDone w g h n s r k a x old) := by
  have D0 := Lib.hid (DoB.start (o := o) (f := f) k a x old m.out hr.out hw.out hbg hbh rfl)
  have k2 : decide (k < 1) = false := by have := hk.out; simp; omega
  have k3 : decide (5 < k) = false := by have := hk.out; simp; omega
  go_enter Try.func18, Try.ntmps18
  go_upto_region 6 with fail
  iterate 11 go_step
  generalize ((w.alloc (.cells #[.slice (some ⟨b, 0, none⟩) n cap, .int .i64 o, .int .i64 f] 28)).alloc (.cells #[.int .i64 k, .int .i64 a, .int .u64 (x : Int), .int .u64 (old : Int)] 32)).alloc (.cells #[.slice none 0 0, .int .i64 0, .int .i64 0] 28) = w0 at *
  generalize hN : w.heap.size = N at *
  clear k2 k3
  go_cut [9, 10] (fun v9 v10 wx => v9 = .int .u64 (doX s k a : Nat) ∧ v10 = .bool (doB s k a old) ∧ DoB w wx N g h (doSt s k a x old) b n cap r.ws o f k a x old)
  case first =>
    obtain ⟨p0, p1, p2, p3⟩ := D0.out.ops
    rcases hk.out with rfl | rfl | rfl | rfl | rfl
    · go_wp2_with fail
      refine (load_any g h s a _ D0.out.mem so sf).mono ?_
      rintro e w1 ⟨rfl, m1, e1⟩
      have D1 := Lib.hid (D0.out.next e1 (show MemAt w1 g h (doSt s 1 a x old) by rw [doSt_1]; exact m1))
      clear e1 m1
      go_wp2_with fail
      go_meet
      case rel => exact ⟨by simp [doX], by simp [doB], D1.out⟩
    · go_wp2_with fail
      refine (store_any g h s a x _ D0.out.mem so sf).mono ?_
      rintro e w1 ⟨rfl, m1, e1⟩
      have D1 := Lib.hid (D0.out.next e1 (show MemAt w1 g h (doSt s 2 a x old) by rw [doSt_2]; exact m1))
      clear e1 m1
      go_wp2_with fail
      go_meet
      case rel => exact ⟨by simp [doX], by simp [doB], D1.out⟩
    · go_wp2_with fail
      refine (swap_any g h s a x _ D0.out.mem so sf).mono ?_
      rintro e w1 ⟨rfl, m1, e1⟩
      have D1 := Lib.hid (D0.out.next e1 (show MemAt w1 g h (doSt s 3 a x old) by rw [doSt_3]; exact m1))
      clear e1 m1
      go_wp2_with fail
      go_meet
      case rel => exact ⟨by simp [doX], by simp [doB], D1.out⟩
    · go_wp2_with fail
      refine (swing_any g h s a old x _ D0.out.mem so sf).mono ?_
      rintro e w1 ⟨rfl, m1, e1⟩
      have D1 := Lib.hid (D0.out.next e1 (show MemAt w1 g h (doSt s 4 a x old) by rw [doSt_4]; exact m1))
      clear e1 m1
      go_wp2_with fail
      go_meet
      case rel => exact ⟨by simp [doX], by simp [doB], D1.out⟩
    · go_wp2_with fail
      refine (add_any g h s a x _ D0.out.mem so sf).mono ?_
      rintro e w1 ⟨rfl, m1, e1⟩
      have D1 := Lib.hid (D0.out.next e1 (show MemAt w1 g h (doSt s 5 a x old) by rw [doSt_5]; exact m1))
      clear e1 m1
      go_wp2_with fail
      go_meet
      case rel => exact ⟨by simp [doX], by simp [doB], D1.out⟩
  case rest =>
    obtain ⟨rfl, rfl, d1⟩ := hcut
    have D1 := Lib.hid d1
    obtain ⟨c0, c1, c2, cz⟩ := d1.ref.cells
    obtain ⟨p0, p1, p2, p3⟩ := d1.ops
    obtain ⟨xs, HXS⟩ : ∃ xs, Hid (doX s k a = xs) := ⟨_, rfl⟩
    obtain ⟨bs, HBS⟩ : ∃ bs, Hid (doB s k a old = bs) := ⟨_, rfl⟩
    rw [HXS.out, HBS.out]
    clear d1 D0
    go_wp2_with fail
    refine (rdo_any b n cap r.ws r o f k a x old _ hn2 ho1 ho2 hf1 hf2 hk rfl HO HF hw D1.out.row).mono ?_
    rintro e w2 ⟨b2, cap2, rfl, hW, hbb, hb2⟩
    have D2 := Lib.hid (D1.out.next (Else.of_below hb2) (D1.out.mem.next hb2))
    obtain ⟨xr, HXR⟩ : ∃ xr, Hid (doX r k a = xr) := ⟨_, rfl⟩
    obtain ⟨bo, HBR⟩ : ∃ bo, Hid (doB r k a old = bo) := ⟨_, rfl⟩
    obtain ⟨o2, HO2⟩ : ∃ o2, Hid (o2 = (((doSt r k a x old).ops : Nat) : Int)) := ⟨_, rfl⟩
    obtain ⟨f2, HF2⟩ : ∃ f2, Hid (f2 = (((doSt r k a x old).faults : Nat) : Int)) := ⟨_, rfl⟩
    rw [HXR.out, HBR.out, ← HO2.out, ← HF2.out]
    have HW := Lib.hid hW
    have hlen : Hid (n = (doSt r k a x old).ws.length) := by show n = _; rw [do_len]; exact hw.out
    have l1 := D1.out.res.lt
    have l2 := D1.out.mem.lt
    have hb2N : N + 2 < b2 := by omega
    have hb2g : b2 ≠ g := by omega
    have hb2h : b2 ≠ h := by omega
    clear c0 c1 c2 cz p0 p1 p2 p3 hW hbb hb2 l1 l2
    obtain ⟨c0, c1, c2, cz⟩ := D2.out.ref.cells
    have D3 := Lib.hid (D2.out.swap (o' := o2) (f' := f2) HW.out hlen.out (by omega) hb2g hb2h)
    go_wp2_with fail
    generalize (((w2.setCell ⟨N, 0, none⟩ (.slice (some ⟨b2, 0, none⟩) n cap2)).setCell ⟨N, 1, none⟩ (.int .i64 o2)).setCell ⟨N, 2, none⟩ (.int .i64 f2)) = w4 at D3 ⊢
    have D4 := D3
    clear c0 c1 c2 cz D2 D1 D3
    obtain ⟨c0, c1, c2, cz⟩ := D4.out.ref.cells
    obtain ⟨p0, p1, p2, p3⟩ := D4.out.ops
    obtain ⟨q0, q1, q2, qz⟩ := D4.out.res.cells
    have M4 := Lib.hid D4.out.mem
    by_cases hx : xs = xr
    · subst hx
      by_cases hb : bs = bo
      · subst hb
        have lN : N < w4.drew.heap.size := D4.out.ref.lt
        have lN1 : N + 1 < w4.drew.heap.size := heap_lt D4.out.op
        have HL := Lib.hid (last_do g h s k a x old _ hk.out (MemAt.drew M4.out))
        go_region_held3 (fun w' => w'.cell? ⟨N, 0, none⟩ = some (.slice (some ⟨b2, 0, none⟩) n cap2) ∧ w'.cell? ⟨N, 1, none⟩ = some (.int .i64 o2) ∧ w'.cell? ⟨N, 2, none⟩ = some (.int .i64 f2) ∧ w'.cell? ⟨N + 1, 0, none⟩ = some (.int .i64 k) ∧ w'.cell? ⟨N + 1, 1, none⟩ = some (.int .i64 a)) (first | (go_keep; done) | with_reducible exact ⟨s0, s1, s2, s3, s4⟩ | with_reducible exact ⟨set3_keep (by omega) _ _ _ s0, set3_keep (by omega) _ _ _ s1, set3_keep (by omega) _ _ _ s2, set3_keep (by omega) _ _ _ s3, set3_keep (by omega) _ _ _ s4⟩) ((go_at_call 41; refine HL.out.mono ?_; rintro e w5 ⟨rfl, hb5⟩; have s0 := (hb5.cell (p := ⟨N, 0, none⟩) lN).trans c0; have s1 := (hb5.cell (p := ⟨N, 1, none⟩) lN).trans c1; have s2 := (hb5.cell (p := ⟨N, 2, none⟩) lN).trans c2; have s3 := (hb5.cell (p := ⟨N + 1, 0, none⟩) lN1).trans p0; have s4 := (hb5.cell (p := ⟨N + 1, 1, none⟩) lN1).trans p1; have D5 := Lib.hid (D4.out.nextD hb5); obtain ⟨t0, t1, t2, tz⟩ := D5.out.res.cells))
        go_wp2_with fail
        obtain ⟨F1, F2, F3, F4⟩ := D5.out.done (by omega)
        obtain ⟨r0, r1, r2, _⟩ := F1.cells
        exact bodyPost_ret (v := .tuple #[.agg #[.slice (some ⟨b2, 0, none⟩) n cap2, .int .i64 o2, .int .i64 f2], .bool true]) (by simp [results, Try.results18, go_sem, r0, r1, r2]) rfl
          (dodone HO2.out HF2.out (by simp [HXS.out, HXR.out, HBS.out, HBR.out]) F2 F3 hb2g hb2h F4)
      · have HNE := Lib.hid hb
        have hne : (bs == bo) = false := by simpa using hb
        clear hb
        refine wp_region_noPanic ?_
        refine wp_region_held_drew (S := fun w' => w'.cell? ⟨N, 0, none⟩ = some (.slice (some ⟨b2, 0, none⟩) n cap2) ∧ w'.cell? ⟨N, 1, none⟩ = some (.int .i64 o2) ∧ w'.cell? ⟨N, 2, none⟩ = some (.int .i64 f2) ∧ w'.cell? ⟨N + 1, 0, none⟩ = some (.int .i64 k) ∧ w'.cell? ⟨N + 1, 1, none⟩ = some (.int .i64 a)) (by kernel_rfl) ⟨c0, c1, c2, p0, p1⟩ (fun hHeld0 => ?_)
        refine wpAnyH_take (i := 0) (v := .agg #[.slice (some ⟨b2, 0, none⟩) n cap2, .int .i64 o2, .int .i64 f2]) rfl (by kernel_rfl) (by kernel_rfl) (by kernel_rfl) (fun _ _ _ h => h) (Or.inl ⟨by rfl, fun w hSw => by obtain ⟨s0, s1, s2, s3, s4⟩ := hSw; go_simp⟩) (by assumption) ?_
        change wpAnyH _ _ _ _ _ _ _ (Act.put _ (some 94) _) _
        simp only [Act.put, List.setIfInBounds_toArray, List.set_cons_zero, List.set_cons_succ]
        refine wpAnyH_take (i := 1) (v := .int .u64 (xs : Int)) rfl (by kernel_rfl) (by kernel_rfl) (by kernel_rfl) (fun _ _ _ h => h) (Or.inl ⟨by rfl, fun w hSw => by go_simp⟩) (by assumption) ?_
        change wpAnyH _ _ _ _ _ _ _ (Act.put _ (some 95) _) _
        simp only [Act.put, List.setIfInBounds_toArray, List.set_cons_zero, List.set_cons_succ]
        refine wpAnyH_take (i := 2) (v := .int .u64 (xs : Int)) rfl (by kernel_rfl) (by kernel_rfl) (by kernel_rfl) (fun _ _ _ h => h) (Or.inl ⟨by rfl, fun w hSw => by go_simp⟩) (by assumption) ?_
        change wpAnyH _ _ _ _ _ _ _ (Act.put _ (some 96) _) _
        simp only [Act.put, List.setIfInBounds_toArray, List.set_cons_zero, List.set_cons_succ]
        refine wpAnyH_take (i := 3) (v := .bool true) rfl (by kernel_rfl) (by kernel_rfl) (by kernel_rfl) (fun _ _ _ h => h) (Or.inl ⟨by rfl, fun w hSw => by go_simp⟩) (by assumption) ?_
        change wpAnyH _ _ _ _ _ _ _ (Act.put _ (some 97) _) _
        simp only [Act.put, List.setIfInBounds_toArray, List.set_cons_zero, List.set_cons_succ]
        refine wpAnyH_take (i := 4) (v := .bool true) rfl (by kernel_rfl) (by kernel_rfl) (by kernel_rfl) (fun _ _ _ h => h) (Or.inl ⟨by rfl, fun w hSw => by go_simp⟩) (by assumption) ?_
        change wpAnyH _ _ _ _ _ _ _ (Act.put _ (some 98) _) _
        simp only [Act.put, List.setIfInBounds_toArray, List.set_cons_zero, List.set_cons_succ]
        refine wpAnyH_take (i := 5) (v := .bool bs) rfl (by kernel_rfl) (by kernel_rfl) (by kernel_rfl) (fun _ _ _ h => h) (Or.inl ⟨by rfl, fun w hSw => by go_simp⟩) (by assumption) ?_
        change wpAnyH _ _ _ _ _ _ _ (Act.put _ (some 99) _) _
        simp only [Act.put, List.setIfInBounds_toArray, List.set_cons_zero, List.set_cons_succ]
        refine wpAnyH_take (i := 6) (v := .bool bo) rfl (by kernel_rfl) (by kernel_rfl) (by kernel_rfl) (fun _ _ _ h => h) (Or.inl ⟨by rfl, fun w hSw => by go_simp⟩) (by assumption) ?_
        change wpAnyH _ _ _ _ _ _ _ (Act.put _ (some 100) _) _
        simp only [Act.put, List.setIfInBounds_toArray, List.set_cons_zero, List.set_cons_succ]
        refine wpAnyH_take (i := 7) (v := .bool false) rfl (by kernel_rfl) (by kernel_rfl) (by kernel_rfl) (fun _ _ _ h => h) (Or.inl ⟨by rfl, fun w hSw => by go_simp⟩) (by assumption) ?_
        change wpAnyH _ _ _ _ _ _ _ (Act.put _ (some 101) _) _
        simp only [Act.put, List.setIfInBounds_toArray, List.set_cons_zero, List.set_cons_succ]
        refine wpAnyH_take (i := 8) (v := .bool false) rfl (by kernel_rfl) (by kernel_rfl) (by kernel_rfl) (fun _ _ _ h => h) (Or.inl ⟨by rfl, fun w hSw => by go_simp⟩) (by assumption) ?_
        change wpAnyH _ _ _ _ _ _ _ (Act.put _ (some 102) _) _
        simp only [Act.put, List.setIfInBounds_toArray, List.set_cons_zero, List.set_cons_succ]
        refine wpAnyH_take (i := 9) (v := .bool false) rfl (by kernel_rfl) (by kernel_rfl) (by kernel_rfl) (fun _ _ _ h => h) (Or.inl ⟨by rfl, fun w hSw => by go_simp⟩) (by assumption) ?_
        change wpAnyH _ _ _ _ _ _ _ (Act.put _ (some 103) _) _
        simp only [Act.put, List.setIfInBounds_toArray, List.set_cons_zero, List.set_cons_succ]
        refine wpAnyH_take (i := 10) (v := undef) rfl (by kernel_rfl) (by kernel_rfl) (by kernel_rfl) (fun _ _ _ h => h) (Or.inr ⟨by rfl, rfl⟩) (by assumption) ?_
        change wpAnyH _ _ _ _ _ _ _ (Act.put _ (some 104) _) _
        simp only [Act.put, List.setIfInBounds_toArray, List.set_cons_zero, List.set_cons_succ]
        refine wpAnyH_take (i := 11) (v := undef) rfl (by kernel_rfl) (by kernel_rfl) (by kernel_rfl) (fun _ _ _ h => h) (Or.inr ⟨by rfl, rfl⟩) (by assumption) ?_
        change wpAnyH _ _ _ _ _ _ _ (Act.put _ (some 105) _) _
        simp only [Act.put, List.setIfInBounds_toArray, List.set_cons_zero, List.set_cons_succ]
        refine wpAnyH_take (i := 12) (v := undef) rfl (by kernel_rfl) (by kernel_rfl) (by kernel_rfl) (fun _ _ _ h => h) (Or.inr ⟨by rfl, rfl⟩) (by assumption) ?_
        change wpAnyH _ _ _ _ _ _ _ (Act.put _ (some 106) _) _
        simp only [Act.put, List.setIfInBounds_toArray, List.set_cons_zero, List.set_cons_succ]
        refine wpAnyH_take (i := 13) (v := undef) rfl (by kernel_rfl) (by kernel_rfl) (by kernel_rfl) (fun _ _ _ h => h) (Or.inr ⟨by rfl, rfl⟩) (by assumption) ?_
        change wpAnyH _ _ _ _ _ _ _ (Act.put _ (some 107) _) _
        simp only [Act.put, List.setIfInBounds_toArray, List.set_cons_zero, List.set_cons_succ]
        refine wpAnyH_take (i := 14) (v := undef) rfl (by kernel_rfl) (by kernel_rfl) (by kernel_rfl) (fun _ _ _ h => h) (Or.inr ⟨by rfl, rfl⟩) (by assumption) ?_
        change wpAnyH _ _ _ _ _ _ _ (Act.put _ (some 108) _) _
        simp only [Act.put, List.setIfInBounds_toArray, List.set_cons_zero, List.set_cons_succ]
        refine wpAnyH_take (i := 15) (v := undef) rfl (by kernel_rfl) (by kernel_rfl) (by kernel_rfl) (fun _ _ _ h => h) (Or.inr ⟨by rfl, rfl⟩) (by assumption) ?_
        change wpAnyH _ _ _ _ _ _ _ (Act.put _ (some 109) _) _
        simp only [Act.put, List.setIfInBounds_toArray, List.set_cons_zero, List.set_cons_succ]
        refine wpAnyH_take (i := 16) (v := undef) rfl (by kernel_rfl) (by kernel_rfl) (by kernel_rfl) (fun _ _ _ h => h) (Or.inr ⟨by rfl, rfl⟩) (by assumption) ?_
        change wpAnyH _ _ _ _ _ _ _ (Act.put _ (some 110) _) _
        simp only [Act.put, List.setIfInBounds_toArray, List.set_cons_zero, List.set_cons_succ]
        refine wpAnyH_take (i := 17) (v := undef) rfl (by kernel_rfl) (by kernel_rfl) (by kernel_rfl) (fun _ _ _ h => h) (Or.inr ⟨by rfl, rfl⟩) (by assumption) ?_
        change wpAnyH _ _ _ _ _ _ _ (Act.put _ (some 111) _) _
        simp only [Act.put, List.setIfInBounds_toArray, List.set_cons_zero, List.set_cons_succ]
        refine wpAnyH_take (i := 18) (v := .bool false) rfl (by kernel_rfl) (by kernel_rfl) (by kernel_rfl) (fun _ _ _ h => h) (Or.inl ⟨by rfl, fun w hSw => by go_simp⟩) (by assumption) ?_
        change wpAnyH _ _ _ _ _ _ _ (Act.put _ (some 112) _) _
        simp only [Act.put, List.setIfInBounds_toArray, List.set_cons_zero, List.set_cons_succ]
        refine wpAnyH_ready (rs := [19]) (by kernel_rfl) (by simp) ?_
        refine AllReadyH.cons rfl (fun K hK => ?_) AllReadyH.nil
        go_simp
        refine hK.out _ _ (by with_reducible exact ⟨set3_drew (by omega) _ _ _ c0, set3_drew (by omega) _ _ _ c1, set3_drew (by omega) _ _ _ c2, set3_drew (by omega) _ _ _ p0, set3_drew (by omega) _ _ _ p1⟩) (fun hHeld1 => ?_)
        clear hK K
        refine wpAnyH_take (i := 20) (v := .bool false) rfl (by kernel_rfl) (by kernel_rfl) (by kernel_rfl) (fun _ _ _ h => h) (Or.inl ⟨by rfl, fun w hSw => by go_simp⟩) (by assumption) ?_
        change wpAnyH _ _ _ _ _ _ _ (Act.put _ (some 7) _) _
        simp only [Act.put, List.setIfInBounds_toArray, List.set_cons_zero, List.set_cons_succ]
        refine wpAnyH_done (by kernel_rfl) ?_ _
        simp only [NoPanic]
        go_wp2_with fail
        obtain ⟨F1, F2, F3, F4⟩ := D4.out.done (by omega)
        obtain ⟨r0, r1, r2, _⟩ := F1.cells
        exact bodyPost_ret (v := .tuple #[.agg #[.slice (some ⟨b2, 0, none⟩) n cap2, .int .i64 o2, .int .i64 f2], .bool false]) (by simp [results, Try.results18, go_sem, r0, r1, r2]) rfl
          (dodone HO2.out HF2.out (by simp [HBS.out, HBR.out, HNE.out]) F2.drew F3 hb2g hb2h F4.drew)
    · have HNE := Lib.hid hx
      have hne : ((xs : Int) == (xr : Int)) = false := by rw [nat_beq]; simpa using hx
      clear hx
      refine wp_region_noPanic ?_
      refine wp_region_held_drew (S := fun w' => w'.cell? ⟨N, 0, none⟩ = some (.slice (some ⟨b2, 0, none⟩) n cap2) ∧ w'.cell? ⟨N, 1, none⟩ = some (.int .i64 o2) ∧ w'.cell? ⟨N, 2, none⟩ = some (.int .i64 f2) ∧ w'.cell? ⟨N + 1, 0, none⟩ = some (.int .i64 k) ∧ w'.cell? ⟨N + 1, 1, none⟩ = some (.int .i64 a)) (by kernel_rfl) ⟨c0, c1, c2, p0, p1⟩ (fun hHeld0 => ?_)
      refine wpAnyH_take (i := 0) (v := .agg #[.slice (some ⟨b2, 0, none⟩) n cap2, .int .i64 o2, .int .i64 f2]) rfl (by kernel_rfl) (by kernel_rfl) (by kernel_rfl) (fun _ _ _ h => h) (Or.inl ⟨by rfl, fun w hSw => by obtain ⟨s0, s1, s2, s3, s4⟩ := hSw; go_simp⟩) (by assumption) ?_
      change wpAnyH _ _ _ _ _ _ _ (Act.put _ (some 94) _) _
      simp only [Act.put, List.setIfInBounds_toArray, List.set_cons_zero, List.set_cons_succ]
      refine wpAnyH_take (i := 1) (v := .int .u64 (xs : Int)) rfl (by kernel_rfl) (by kernel_rfl) (by kernel_rfl) (fun _ _ _ h => h) (Or.inl ⟨by rfl, fun w hSw => by go_simp⟩) (by assumption) ?_
      change wpAnyH _ _ _ _ _ _ _ (Act.put _ (some 95) _) _
      simp only [Act.put, List.setIfInBounds_toArray, List.set_cons_zero, List.set_cons_succ]
      refine wpAnyH_take (i := 2) (v := .int .u64 (xr : Int)) rfl (by kernel_rfl) (by kernel_rfl) (by kernel_rfl) (fun _ _ _ h => h) (Or.inl ⟨by rfl, fun w hSw => by go_simp⟩) (by assumption) ?_
      change wpAnyH _ _ _ _ _ _ _ (Act.put _ (some 96) _) _
      simp only [Act.put, List.setIfInBounds_toArray, List.set_cons_zero, List.set_cons_succ]
      refine wpAnyH_take (i := 3) (v := .bool false) rfl (by kernel_rfl) (by kernel_rfl) (by kernel_rfl) (fun _ _ _ h => h) (Or.inl ⟨by rfl, fun w hSw => by go_simp⟩) (by assumption) ?_
      change wpAnyH _ _ _ _ _ _ _ (Act.put _ (some 97) _) _
      simp only [Act.put, List.setIfInBounds_toArray, List.set_cons_zero, List.set_cons_succ]
      refine wpAnyH_take (i := 4) (v := .bool false) rfl (by kernel_rfl) (by kernel_rfl) (by kernel_rfl) (fun _ _ _ h => h) (Or.inl ⟨by rfl, fun w hSw => by go_simp⟩) (by assumption) ?_
      change wpAnyH _ _ _ _ _ _ _ (Act.put _ (some 98) _) _
      simp only [Act.put, List.setIfInBounds_toArray, List.set_cons_zero, List.set_cons_succ]
      refine wpAnyH_take (i := 5) (v := undef) rfl (by kernel_rfl) (by kernel_rfl) (by kernel_rfl) (fun _ _ _ h => h) (Or.inr ⟨by rfl, rfl⟩) (by assumption) ?_
      change wpAnyH _ _ _ _ _ _ _ (Act.put _ (some 99) _) _
      simp only [Act.put, List.setIfInBounds_toArray, List.set_cons_zero, List.set_cons_succ]
      refine wpAnyH_take (i := 6) (v := undef) rfl (by kernel_rfl) (by kernel_rfl) (by kernel_rfl) (fun _ _ _ h => h) (Or.inr ⟨by rfl, rfl⟩) (by assumption) ?_
      change wpAnyH _ _ _ _ _ _ _ (Act.put _ (some 100) _) _
      simp only [Act.put, List.setIfInBounds_toArray, List.set_cons_zero, List.set_cons_succ]
      refine wpAnyH_take (i := 7) (v := undef) rfl (by kernel_rfl) (by kernel_rfl) (by kernel_rfl) (fun _ _ _ h => h) (Or.inr ⟨by rfl, rfl⟩) (by assumption) ?_
      change wpAnyH _ _ _ _ _ _ _ (Act.put _ (some 101) _) _
      simp only [Act.put, List.setIfInBounds_toArray, List.set_cons_zero, List.set_cons_succ]
      refine wpAnyH_take (i := 8) (v := .bool false) rfl (by kernel_rfl) (by kernel_rfl) (by kernel_rfl) (fun _ _ _ h => h) (Or.inl ⟨by rfl, fun w hSw => by go_simp⟩) (by assumption) ?_
      change wpAnyH _ _ _ _ _ _ _ (Act.put _ (some 102) _) _
      simp only [Act.put, List.setIfInBounds_toArray, List.set_cons_zero, List.set_cons_succ]
      refine wpAnyH_take (i := 9) (v := .bool false) rfl (by kernel_rfl) (by kernel_rfl) (by kernel_rfl) (fun _ _ _ h => h) (Or.inl ⟨by rfl, fun w hSw => by go_simp⟩) (by assumption) ?_
      change wpAnyH _ _ _ _ _ _ _ (Act.put _ (some 103) _) _
      simp only [Act.put, List.setIfInBounds_toArray, List.set_cons_zero, List.set_cons_succ]
      refine wpAnyH_take (i := 10) (v := undef) rfl (by kernel_rfl) (by kernel_rfl) (by kernel_rfl) (fun _ _ _ h => h) (Or.inr ⟨by rfl, rfl⟩) (by assumption) ?_
      change wpAnyH _ _ _ _ _ _ _ (Act.put _ (some 104) _) _
      simp only [Act.put, List.setIfInBounds_toArray, List.set_cons_zero, List.set_cons_succ]
      refine wpAnyH_take (i := 11) (v := undef) rfl (by kernel_rfl) (by kernel_rfl) (by kernel_rfl) (fun _ _ _ h => h) (Or.inr ⟨by rfl, rfl⟩) (by assumption) ?_
      change wpAnyH _ _ _ _ _ _ _ (Act.put _ (some 105) _) _
      simp only [Act.put, List.setIfInBounds_toArray, List.set_cons_zero, List.set_cons_succ]
      refine wpAnyH_take (i := 12) (v := undef) rfl (by kernel_rfl) (by kernel_rfl) (by kernel_rfl) (fun _ _ _ h => h) (Or.inr ⟨by rfl, rfl⟩) (by assumption) ?_
      change wpAnyH _ _ _ _ _ _ _ (Act.put _ (some 106) _) _
      simp only [Act.put, List.setIfInBounds_toArray, List.set_cons_zero, List.set_cons_succ]
      refine wpAnyH_take (i := 13) (v := undef) rfl (by kernel_rfl) (by kernel_rfl) (by kernel_rfl) (fun _ _ _ h => h) (Or.inr ⟨by rfl, rfl⟩) (by assumption) ?_
      change wpAnyH _ _ _ _ _ _ _ (Act.put _ (some 107) _) _
      simp only [Act.put, List.setIfInBounds_toArray, List.set_cons_zero, List.set_cons_succ]
      refine wpAnyH_take (i := 14) (v := undef) rfl (by kernel_rfl) (by kernel_rfl) (by kernel_rfl) (fun _ _ _ h => h) (Or.inr ⟨by rfl, rfl⟩) (by assumption) ?_
      change wpAnyH _ _ _ _ _ _ _ (Act.put _ (some 108) _) _
      simp only [Act.put, List.setIfInBounds_toArray, List.set_cons_zero, List.set_cons_succ]
      refine wpAnyH_take (i := 15) (v := undef) rfl (by kernel_rfl) (by kernel_rfl) (by kernel_rfl) (fun _ _ _ h => h) (Or.inr ⟨by rfl, rfl⟩) (by assumption) ?_
      change wpAnyH _ _ _ _ _ _ _ (Act.put _ (some 109) _) _
      simp only [Act.put, List.setIfInBounds_toArray, List.set_cons_zero, List.set_cons_succ]
      refine wpAnyH_take (i := 16) (v := undef) rfl (by kernel_rfl) (by kernel_rfl) (by kernel_rfl) (fun _ _ _ h => h) (Or.inr ⟨by rfl, rfl⟩) (by assumption) ?_
      change wpAnyH _ _ _ _ _ _ _ (Act.put _ (some 110) _) _
      simp only [Act.put, List.setIfInBounds_toArray, List.set_cons_zero, List.set_cons_succ]
      refine wpAnyH_take (i := 17) (v := undef) rfl (by kernel_rfl) (by kernel_rfl) (by kernel_rfl) (fun _ _ _ h => h) (Or.inr ⟨by rfl, rfl⟩) (by assumption) ?_
      change wpAnyH _ _ _ _ _ _ _ (Act.put _ (some 111) _) _
      simp only [Act.put, List.setIfInBounds_toArray, List.set_cons_zero, List.set_cons_succ]
      refine wpAnyH_take (i := 18) (v := .bool false) rfl (by kernel_rfl) (by kernel_rfl) (by kernel_rfl) (fun _ _ _ h => h) (Or.inl ⟨by rfl, fun w hSw => by go_simp⟩) (by assumption) ?_
      change wpAnyH _ _ _ _ _ _ _ (Act.put _ (some 112) _) _
      simp only [Act.put, List.setIfInBounds_toArray, List.set_cons_zero, List.set_cons_succ]
      refine wpAnyH_ready (rs := [19]) (by kernel_rfl) (by simp) ?_
      refine AllReadyH.cons rfl (fun K hK => ?_) AllReadyH.nil
      go_simp
      refine hK.out _ _ (by with_reducible exact ⟨set3_drew (by omega) _ _ _ c0, set3_drew (by omega) _ _ _ c1, set3_drew (by omega) _ _ _ c2, set3_drew (by omega) _ _ _ p0, set3_drew (by omega) _ _ _ p1⟩) (fun hHeld1 => ?_)
      clear hK K
      refine wpAnyH_take (i := 20) (v := .bool false) rfl (by kernel_rfl) (by kernel_rfl) (by kernel_rfl) (fun _ _ _ h => h) (Or.inl ⟨by rfl, fun w hSw => by go_simp⟩) (by assumption) ?_
      change wpAnyH _ _ _ _ _ _ _ (Act.put _ (some 7) _) _
      simp only [Act.put, List.setIfInBounds_toArray, List.set_cons_zero, List.set_cons_succ]
      refine wpAnyH_done (by kernel_rfl) ?_ _
      simp only [NoPanic]
      go_wp2_with fail
      obtain ⟨F1, F2, F3, F4⟩ := D4.out.done (by omega)
      obtain ⟨r0, r1, r2, _⟩ := F1.cells
      exact bodyPost_ret (v := .tuple #[.agg #[.slice (some ⟨b2, 0, none⟩) n cap2, .int .i64 o2, .int .i64 f2], .bool false]) (by simp [results, Try.results18, go_sem, r0, r1, r2]) rfl
        (dodone HO2.out HF2.out (by simp [HXS.out, HXR.out, HNE.out]) F2.drew F3 hb2g hb2h F4.drew)

end Go.Proofs.Ytnjgajkcoahefaa
