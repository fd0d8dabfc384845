/-
  Contract of the statements' own 'do' of layer 3, where nothing is accessed: a look from outside.
-/
import Derived.Test.YtnjgajkcoahefaaMemR3
namespace Go.Proofs.Ytnjgajkcoahefaa
open Go.RowKit

theorem rd_in {s : MSt} {ws : List Nat} {n : Nat} {a : Int} (hw : ws = s.ws) (hn : n = ws.length) : s.rd a = if (decide (0 ≤ a) && decide (a < n)) then ws.getD a.toNat 0 else 0 := by
  subst hw hn; rfl

theorem set3_drew {w : World} {B k j : Nat} {v : Value} (hk : k ≠ B) (x y z : Value) (h : w.cell? ⟨k, j, none⟩ = some v) : (((w.setCell ⟨B, 0, none⟩ x).setCell ⟨B, 1, none⟩ y).setCell ⟨B, 2, none⟩ z).drew.cell? ⟨k, j, none⟩ = some v := (set3_cell hk x y z).trans h
theorem Else.drew {g h : Nat} {a w : World} (x : Else g h a w) : Else g h a w.drew := ⟨x.os, x.tape, x.output, x.size, x.block⟩
theorem nat_beq (a b : Nat) : ((a : Int) == (b : Int)) = (a == b) := by
  rw [Bool.eq_iff_iff]; simp only [beq_iff_eq]; omega
theorem nat_beq0 (a : Nat) : ((a : Int) == 0) = (a == 0) := nat_beq a 0
theorem MemAt.drew {w : World} {g h : Nat} {s : MSt} (m : MemAt w g h s) : MemAt w.drew g h s := ⟨m.head, m.body, m.ne, m.len⟩
set_option maxHeartbeats 2000000 in
theorem do_look (g h b n cap : Nat) (s r : MSt) (o f k a : Int) (x old : Nat) (w : World) (hk : Hid (¬ (1 ≤ k ∧ k ≤ 5))) (m : Hid (MemAt w g h s)) (hr : Hid (WRow w (.slice (some ⟨b, 0, none⟩) n cap) r.ws)) (hw : Hid (n = r.ws.length)) (hbg : b ≠ g) (hbh : b ≠ h) :
    Calls Try.prog 18 #[.pointer (some ⟨g, 0, none⟩), .agg #[.slice (some ⟨b, 0, none⟩) n cap, .int .i64 o, .int .i64 f], .agg #[.int .i64 k, .int .i64 a, .int .u64 x, .int .u64 old]] w fun e w' =>
      e = .returned (.tuple #[.agg #[.slice (some ⟨b, 0, none⟩) n cap, .int .i64 o, .int .i64 f], .bool (s.rd a == r.rd a)]) ∧ MemAt w' g h s ∧ WRow w' (.slice (some ⟨b, 0, none⟩) n cap) r.ws ∧ Else g h w w' := by
  have d := DoB.start (o := o) (f := f) k a x old m.out hr.out hw.out hbg hbh rfl
  have D := Lib.hid d
  clear d
  have HIN : Hid (r.rd a = if (decide (0 ≤ a) && decide (a < n)) then r.ws.getD a.toNat 0 else 0) := rd_in rfl hw.out
  have hbl : b < w.heap.size := by
    have hr1 := hr.out
    rw [hw.out] at hr1
    obtain ⟨cur, hg, _⟩ := own_block hr1
    exact heap_lt hg
  by_cases k1 : k < 1
  · have k2 : decide (k < 1) = true := by simpa using k1
    go_enter Try.func18, Try.ntmps18
    go_wp2_with fail
    generalize ((w.alloc (.cells #[.slice (some ⟨b, 0, none⟩) n cap, .int .i64 o, .int .i64 f] 28)).alloc (.cells #[.int .i64 k, .int .i64 a, .int .u64 (x : Int), .int .u64 (old : Int)] 32)).alloc (.cells #[.slice none 0 0, .int .i64 0, .int .i64 0] 28) = w0 at *
    generalize hN : w.heap.size = N at *
    refine (rin_any _ n cap _ o f a _ rfl).mono ?_
    rintro e w3 ⟨rfl, hb3⟩
    have D3 := Lib.hid (D.out.next (Else.of_below hb3) (D.out.mem.next hb3))
    clear hb3
    obtain ⟨c0, c1, c2, cz⟩ := D3.out.ref.cells
    obtain ⟨q0, q1, q2, qz⟩ := D3.out.res.cells
    obtain ⟨p0, p1, p2, p3⟩ := D3.out.ops
    have M3 := Lib.hid D3.out.mem
    rcases hin : (decide (0 ≤ a) && decide (a < (n : Int))) with _ | _
    · have HX : Hid (r.rd a = 0) := by show r.rd a = 0; rw [HIN.out, hin]; rfl
      clear hin
      go_wp2_with fail
      go_region_held3 (fun w' => w'.cell? ⟨N, 0, none⟩ = some (.slice (some ⟨b, 0, none⟩) n cap) ∧ w'.cell? ⟨N, 1, none⟩ = some (.int .i64 o) ∧ w'.cell? ⟨N, 2, none⟩ = some (.int .i64 f) ∧ w'.cell? ⟨N + 1, 1, none⟩ = some (.int .i64 a)) (first | (go_keep; done) | with_reducible exact ⟨set3_drew (by omega) _ _ _ c0, set3_drew (by omega) _ _ _ c1, set3_drew (by omega) _ _ _ c2, set3_drew (by omega) _ _ _ p1⟩) ((go_at_call 26; refine (peek_any g h s a _ (MemAt.drew M3.out)).mono ?_; rintro e w' ⟨rfl, rfl⟩))
      go_wp2_with fail
      obtain ⟨F1, F2, F3, F4⟩ := D3.out.done (by omega)
      obtain ⟨r0, r1, r2, _⟩ := F1.cells
      exact bodyPost_ret (v := .tuple #[.agg #[.slice (some ⟨b, 0, none⟩) n cap, .int .i64 o, .int .i64 f], .bool (s.rd a == r.rd a)]) (by rw [HX.out]; simp [results, Try.results18, go_sem, r0, r1, r2]; exact nat_beq0 _) rfl ⟨rfl, F2.drew, F3, F4.drew⟩
    · have hI0 : inM r a = true := by show (decide (0 ≤ a) && decide (a < ((r.ws.length : Nat) : Int))) = true; rw [← hw.out]; exact hin
      obtain ⟨j, rfl, hj0⟩ := inM_cases hI0
      have hj : j < n := by rw [hw.out]; exact hj0
      have cj := D3.out.row.at hw.out hj
      have HX : Hid (r.rd (j : Int) = r.ws.getD j 0) := rd_yes hI0
      generalize r.ws.getD j 0 = v at *
      have lj : (j : Int) < (n : Int) := by omega
      clear hin hI0 hj0
      go_wp2_with fail
      go_region_held3 (fun w' => w'.cell? ⟨N, 0, none⟩ = some (.slice (some ⟨b, 0, none⟩) n cap) ∧ w'.cell? ⟨N, 1, none⟩ = some (.int .i64 o) ∧ w'.cell? ⟨N, 2, none⟩ = some (.int .i64 f) ∧ w'.cell? ⟨N + 1, 1, none⟩ = some (.int .i64 (j : Int))) (first | (go_keep; done) | with_reducible exact ⟨set3_drew (by omega) _ _ _ c0, set3_drew (by omega) _ _ _ c1, set3_drew (by omega) _ _ _ c2, set3_drew (by omega) _ _ _ p1⟩) ((go_at_call 26; refine (peek_any g h s (j : Int) _ (MemAt.drew M3.out)).mono ?_; rintro e w' ⟨rfl, rfl⟩))
      go_wp2_with fail
      obtain ⟨F1, F2, F3, F4⟩ := D3.out.done (by omega)
      obtain ⟨r0, r1, r2, _⟩ := F1.cells
      exact bodyPost_ret (v := .tuple #[.agg #[.slice (some ⟨b, 0, none⟩) n cap, .int .i64 o, .int .i64 f], .bool (s.rd (j : Int) == r.rd (j : Int))]) (by rw [HX.out]; simp [results, Try.results18, go_sem, r0, r1, r2]; exact nat_beq _ _) rfl ⟨rfl, F2.drew, F3, F4.drew⟩
  · have k2 : decide (k < 1) = false := by simpa using k1
    have k3 : 5 < k := by have := hk.out; omega
    have k4 : decide (5 < k) = true := by simpa using k3
    clear k1
    go_enter Try.func18, Try.ntmps18
    go_wp2_with fail
    generalize ((w.alloc (.cells #[.slice (some ⟨b, 0, none⟩) n cap, .int .i64 o, .int .i64 f] 28)).alloc (.cells #[.int .i64 k, .int .i64 a, .int .u64 (x : Int), .int .u64 (old : Int)] 32)).alloc (.cells #[.slice none 0 0, .int .i64 0, .int .i64 0] 28) = w0 at *
    generalize hN : w.heap.size = N at *
    refine (rin_any _ n cap _ o f a _ rfl).mono ?_
    rintro e w3 ⟨rfl, hb3⟩
    have D3 := Lib.hid (D.out.next (Else.of_below hb3) (D.out.mem.next hb3))
    clear hb3
    obtain ⟨c0, c1, c2, cz⟩ := D3.out.ref.cells
    obtain ⟨q0, q1, q2, qz⟩ := D3.out.res.cells
    obtain ⟨p0, p1, p2, p3⟩ := D3.out.ops
    have M3 := Lib.hid D3.out.mem
    rcases hin : (decide (0 ≤ a) && decide (a < (n : Int))) with _ | _
    · have HX : Hid (r.rd a = 0) := by show r.rd a = 0; rw [HIN.out, hin]; rfl
      clear hin
      go_wp2_with fail
      go_region_held3 (fun w' => w'.cell? ⟨N, 0, none⟩ = some (.slice (some ⟨b, 0, none⟩) n cap) ∧ w'.cell? ⟨N, 1, none⟩ = some (.int .i64 o) ∧ w'.cell? ⟨N, 2, none⟩ = some (.int .i64 f) ∧ w'.cell? ⟨N + 1, 1, none⟩ = some (.int .i64 a)) (first | (go_keep; done) | with_reducible exact ⟨set3_drew (by omega) _ _ _ c0, set3_drew (by omega) _ _ _ c1, set3_drew (by omega) _ _ _ c2, set3_drew (by omega) _ _ _ p1⟩) ((go_at_call 26; refine (peek_any g h s a _ (MemAt.drew M3.out)).mono ?_; rintro e w' ⟨rfl, rfl⟩))
      go_wp2_with fail
      obtain ⟨F1, F2, F3, F4⟩ := D3.out.done (by omega)
      obtain ⟨r0, r1, r2, _⟩ := F1.cells
      exact bodyPost_ret (v := .tuple #[.agg #[.slice (some ⟨b, 0, none⟩) n cap, .int .i64 o, .int .i64 f], .bool (s.rd a == r.rd a)]) (by rw [HX.out]; simp [results, Try.results18, go_sem, r0, r1, r2]; exact nat_beq0 _) rfl ⟨rfl, F2.drew, F3, F4.drew⟩
    · have hI0 : inM r a = true := by show (decide (0 ≤ a) && decide (a < ((r.ws.length : Nat) : Int))) = true; rw [← hw.out]; exact hin
      obtain ⟨j, rfl, hj0⟩ := inM_cases hI0
      have hj : j < n := by rw [hw.out]; exact hj0
      have cj := D3.out.row.at hw.out hj
      have HX : Hid (r.rd (j : Int) = r.ws.getD j 0) := rd_yes hI0
      generalize r.ws.getD j 0 = v at *
      have lj : (j : Int) < (n : Int) := by omega
      clear hin hI0 hj0
      go_wp2_with fail
      go_region_held3 (fun w' => w'.cell? ⟨N, 0, none⟩ = some (.slice (some ⟨b, 0, none⟩) n cap) ∧ w'.cell? ⟨N, 1, none⟩ = some (.int .i64 o) ∧ w'.cell? ⟨N, 2, none⟩ = some (.int .i64 f) ∧ w'.cell? ⟨N + 1, 1, none⟩ = some (.int .i64 (j : Int))) (first | (go_keep; done) | with_reducible exact ⟨set3_drew (by omega) _ _ _ c0, set3_drew (by omega) _ _ _ c1, set3_drew (by omega) _ _ _ c2, set3_drew (by omega) _ _ _ p1⟩) ((go_at_call 26; refine (peek_any g h s (j : Int) _ (MemAt.drew M3.out)).mono ?_; rintro e w' ⟨rfl, rfl⟩))
      go_wp2_with fail
      obtain ⟨F1, F2, F3, F4⟩ := D3.out.done (by omega)
      obtain ⟨r0, r1, r2, _⟩ := F1.cells
      exact bodyPost_ret (v := .tuple #[.agg #[.slice (some ⟨b, 0, none⟩) n cap, .int .i64 o, .int .i64 f], .bool (s.rd (j : Int) == r.rd (j : Int))]) (by rw [HX.out]; simp [results, Try.results18, go_sem, r0, r1, r2]; exact nat_beq _ _) rfl ⟨rfl, F2.drew, F3, F4.drew⟩

end Go.Proofs.Ytnjgajkcoahefaa
