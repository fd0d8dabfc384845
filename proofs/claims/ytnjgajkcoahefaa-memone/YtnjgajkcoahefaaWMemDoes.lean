/-
  The walk of the statement MemDoes: whatever accesses come, each answers, and leaves, what the document says.
-/
import Derived.Test.YtnjgajkcoahefaaMemR5
import Derived.Test.YtnjgajkcoahefaaRowOp
namespace Go.Proofs.Ytnjgajkcoahefaa
open Go.RowKit

/-- The state between two rounds: the memory, and the document's, alike. -/
structure Both (w00 w : World) (g h N n : Nat) (k b cap : Nat) (s : MSt) : Prop where
  mem : MemAt w g h s
  ref : Blk3 w N 28 (.slice (some ⟨b, 0, none⟩) n cap) (.int .i64 (s.ops : Int)) (.int .i64 (s.faults : Int))
  row : WRow w (.slice (some ⟨b, 0, none⟩) n cap) s.ws
  len : n = s.ws.length
  ops : s.ops ≤ k
  faults : s.faults ≤ k
  bg : b ≠ g
  bh : b ≠ h
  gN : g ≠ N
  hN : h ≠ N
  lg : w00.heap.size ≤ g
  lh : w00.heap.size ≤ h
  lN : w00.heap.size ≤ N
  bel : Below w00.heap.size w00 w
theorem Both.bN {w00 w : World} {g h N n k b cap : Nat} {s : MSt} (d : Both w00 w g h N n k b cap s) : b ≠ N := by
  intro e
  have hr := d.row
  rw [d.len] at hr
  obtain ⟨cur, hg, _⟩ := own_block hr
  have := d.ref
  unfold Blk3 at this
  rw [← e, hg] at this
  simp at this

theorem do_round (g h b n cap : Nat) (s : MSt) (k a : Int) (x old : Nat) (w : World) (hn2 : n ≤ 255) (so : s.ops < 4611686018427387904) (sf : s.faults < 4611686018427387904) (m : MemAt w g h s) (hr : WRow w (.slice (some ⟨b, 0, none⟩) n cap) s.ws) (hw : n = s.ws.length) (hbg : b ≠ g) (hbh : b ≠ h) :
    Calls Try.prog 18 #[.pointer (some ⟨g, 0, none⟩), .agg #[.slice (some ⟨b, 0, none⟩) n cap, .int .i64 (s.ops : Int), .int .i64 (s.faults : Int)], .agg #[.int .i64 k, .int .i64 a, .int .u64 (x : Int), .int .u64 (old : Int)]] w fun e w' =>
      ∃ b' cap' s', e = .returned (.tuple #[.agg #[.slice (some ⟨b', 0, none⟩) n cap', .int .i64 ((s'.ops : Nat) : Int), .int .i64 ((s'.faults : Nat) : Int)], .bool true]) ∧ MemAt w' g h s' ∧ WRow w' (.slice (some ⟨b', 0, none⟩) n cap') s'.ws ∧ n = s'.ws.length ∧ b' ≠ g ∧ b' ≠ h ∧ s'.ops ≤ s.ops + 1 ∧ s'.faults ≤ s.faults + 1 ∧ Else g h w w' := by
  by_cases hk : 1 ≤ k ∧ k ≤ 5
  · refine (do_acc g h b n cap s s s.ops s.faults k a x old w hn2 (show k = 1 ∨ k = 2 ∨ k = 3 ∨ k = 4 ∨ k = 5 by omega) so sf (by omega) (by omega) (by omega) (by omega) rfl rfl m hr hw hbg hbh).mono ?_
    rintro e w' ⟨b', cap', rfl, m', hW, h1, h2, h3⟩
    refine ⟨b', cap', doSt s k a x old, by simp, m', hW, by rw [do_len]; exact hw, h1, h2, by rw [do_ops]; exact Nat.le_refl _, ?_, h3⟩
    rcases hi : inM s a with _ | _
    · rw [do_faults_out hi]; exact Nat.le_refl _
    · rw [do_faults_in hi]; omega
  · refine (do_look g h b n cap s s s.ops s.faults k a x old w hk m hr hw hbg hbh).mono ?_
    rintro e w' ⟨rfl, m', hW, h3⟩
    exact ⟨b, cap, s, by simp, m', hW, hw, hbg, hbh, by omega, by omega, h3⟩

theorem ops_q (g h : Nat) (s : MSt) (w : World) (m : MemAt w g h s) :
    Calls Try.prog 19 #[.pointer (some ⟨g, 0, none⟩)] w fun e w' => e = .returned (.int .i64 s.ops) ∧ w' = w := (ops_any g h s w m).mono fun _ _ ⟨h1, h2⟩ => ⟨h1, h2.symm⟩
theorem faults_q (g h : Nat) (s : MSt) (w : World) (m : MemAt w g h s) :
    Calls Try.prog 20 #[.pointer (some ⟨g, 0, none⟩)] w fun e w' => e = .returned (.int .i64 s.faults) ∧ w' = w := (faults_any g h s w m).mono fun _ _ ⟨h1, h2⟩ => ⟨h1, h2.symm⟩

theorem MemAt.drewN {w : World} {g h : Nat} {s : MSt} (m : MemAt w g h s) (n : Nat) : MemAt (w.drewN n) g h s := ⟨m.head, m.body, m.ne, m.len⟩
theorem below_dn {B : Nat} {w w1 : World} (h : Below B w w1) (n : Nat) : Below B w (w1.drewN n) := ⟨h.os, h.tape, h.output, h.size, h.block⟩
theorem Both.next {w00 w w1 : World} {g h N n k b cap b' cap' : Nat} {s s' : MSt} (d : Both w00 w g h N n k b cap s) (e : Else g h w w1) (m : MemAt w1 g h s') (hr : WRow w1 (.slice (some ⟨b', 0, none⟩) n cap') s'.ws) (hn : n = s'.ws.length) (h1 : b' ≠ g) (h2 : b' ≠ h) (ho : s'.ops ≤ s.ops + 1) (hf : s'.faults ≤ s.faults + 1) (q : Nat) :
    Both w00 ((((w1.setCell ⟨N, 0, none⟩ (.slice (some ⟨b', 0, none⟩) n cap')).setCell ⟨N, 1, none⟩ (.int .i64 ((s'.ops : Nat) : Int))).setCell ⟨N, 2, none⟩ (.int .i64 ((s'.faults : Nat) : Int))).drewN q) g h N n (k + 1) b' cap' s' := by
  have k1 : Blk3 w1 N 28 (.slice (some ⟨b, 0, none⟩) n cap) (.int .i64 (s.ops : Int)) (.int .i64 (s.faults : Int)) := (e.block N d.ref.lt (fun h => d.gN h.symm) (fun h => d.hN h.symm)).trans d.ref
  have hbN : b' ≠ N := by
    intro e
    have hr' := hr
    rw [hn] at hr'
    obtain ⟨cur, hg, _⟩ := own_block hr'
    unfold Blk3 at k1
    rw [← e, hg] at k1
    simp at k1
  have b1 : Below w00.heap.size w00 w1 := d.bel.trans (e.below d.lg d.lh d.bel.size)
  exact ⟨(m.set3 d.gN d.hN _ _ _).drewN q, k1.set _ _ _, hr.far hn (set3_other hbN _ _ _), hn, by have := d.ops; omega, by have := d.faults; omega, h1, h2, d.gN, d.hN, d.lg, d.lh, d.lN, below_dn (below_set3 b1 d.lN _ _ _) q⟩
theorem Both.alloc {w00 w : World} {g h N n k b cap : Nat} {s : MSt} (d : Both w00 w g h N n k b cap s) (o : Obj) : Both w00 (w.alloc o) g h N n k b cap s :=
  have b1 : Below w.heap.size w (w.alloc o) := (Below.refl _ _).alloc (Nat.le_refl _) o
  ⟨d.mem.next b1, d.ref.next b1 d.ref.lt, d.row.next b1, d.len, d.ops, d.faults, d.bg, d.bh, d.gN, d.hN, d.lg, d.lh, d.lN, d.bel.alloc d.bel.size o⟩
theorem Both.start {w00 w w1 : World} {g h n b : Nat} (B : Below w00.heap.size w00 w) (m : MemAt w g h (MSt.fresh n)) (hg : w00.heap.size ≤ g) (hh : w00.heap.size ≤ h) (b1 : Below w.heap.size w w1) (hr : WRow w1 (.slice (some ⟨b, 0, none⟩) n n) (List.replicate n 0)) (hb : w.heap.size ≤ b) :
    Both w00 (w1.alloc (.cells #[.slice (some ⟨b, 0, none⟩) n n, .int .i64 0, .int .i64 0] 28)) g h w1.heap.size n 0 b n (MSt.fresh n) := by
  have l := m.lt
  have l2 := b1.size
  have b2 : Below w1.heap.size w1 (w1.alloc (.cells #[.slice (some ⟨b, 0, none⟩) n n, .int .i64 0, .int .i64 0] 28)) := (Below.refl _ _).alloc (Nat.le_refl _) _
  exact ⟨(m.next b1).next b2, Blk3.new w1 _ _ _ _, hr.next b2, by simp [MSt.fresh], Nat.le_refl _, Nat.le_refl _, by omega, by omega, by omega, by omega, hg, hh, by have := B.size; omega, below_then (below_then B b1) b2⟩

theorem len_n {w : World} {g h n : Nat} {s : MSt} (m : MemAt w g h s) (hn : n = s.ws.length) : Calls Try.prog 22 #[.pointer (some ⟨g, 0, none⟩)] w fun e w' => e = .returned (.int .i64 n) ∧ w = w' := by
  subst hn; exact len_any g h s w m

set_option maxRecDepth 20000 in
set_option maxHeartbeats 4000000 in
theorem does_few (n len cap : Nat) (ad : Option Addr) (K A : Nat → Int) (X O : Nat → Nat) (w : World) (hn : n ≤ 255) (hlen : len ≤ 300) (hc : Hid (RowOp w ad len K A X O)) :
    Calls Try.prog 3 #[.int .u8 n, .slice ad len cap] w fun e w' => e = .returned (.bool true) ∧ Below w.heap.size w w' := by
  have l1 : (len : Int) ≤ 300 := by omega
  go_enter Try.func3, Try.ntmps3
  go_wp2_with fail
  refine (speaks3 _).mono ?_
  rintro e w1 ⟨rfl, hb⟩
  have B1 := Lib.hid hb
  clear hb
  go_wp2_with fail
  refine (new_nat n n _ (.inr (.inl ⟨rfl, by omega⟩))).mono ?_
  rintro e w2 ⟨g, h, rfl, m2, hg, hh, hb⟩
  have hg' : w.heap.size ≤ g := Nat.le_trans B1.out.size hg
  have hh' : w.heap.size ≤ h := Nat.le_trans B1.out.size hh
  have B2 := Lib.hid (below_then B1.out hb)
  clear hb
  go_wp2_with fail
  refine (rnew_any n _ (by omega)).mono ?_
  rintro e w3 ⟨b, rfl, hW, hbl, hb⟩
  have S0 := Lib.hid (Both.start B2.out m2 hg' hh' hb hW hbl)
  clear hb hW hbl m2 hg hh B1 B2
  go_wp2_with fail
  generalize hN : w3.heap.size = N at *
  go_loopw [26] (fun u wr => ∃ (k b cp : Nat) (s : MSt), k ≤ len ∧ u = .int .i64 k ∧ Both w wr g h N n k b cp s) (fun u _ => len - (intOf u).toNat)
  case atStart => exact ⟨0, b, n, MSt.fresh n, Nat.zero_le _, rfl, S0.out⟩
  case round =>
    obtain ⟨k, b, cp, s, hk, rfl, d⟩ := hrel
    by_cases hl : k < len
    · obtain ⟨b0, off, rfl, x0, x1, x2, x3⟩ := (hc.out.next d.bel).at hl
      have l2 : (k : Int) < (len : Int) := by omega
      generalize K k = kk at *
      generalize A k = aa at *
      generalize X k = xx at *
      generalize O k = oo at *
      have D1 := Lib.hid (d.alloc (.cells #[.int .i64 kk, .int .i64 aa, .int .u64 (xx : Int), .int .u64 (oo : Int)] 32))
      have hsz := Lib.hid d.ref.lt
      obtain ⟨c0, c1, c2, cz⟩ := d.ref.cells
      obtain ⟨e0, e1, e2, ez⟩ := D1.out.ref.cells
      have DO := d.ops
      have DF := d.faults
      clear d
      go_wp2_with fail
      refine (do_round g h b n cp s kk aa xx oo _ hn (by omega) (by omega) D1.out.mem D1.out.row D1.out.len D1.out.bg D1.out.bh).mono ?_
      rintro e w5 ⟨b5, cap5, s5, rfl, m5, hW5, hn5, hbg5, hbh5, ho5, hf5, e5⟩
      have D5 := Lib.hid (fun q => D1.out.next e5 m5 hW5 hn5 hbg5 hbh5 ho5 hf5 q)
      have k5 := (e5.block N D1.out.ref.lt (fun h => D1.out.gN h.symm) (fun h => D1.out.hN h.symm)).trans D1.out.ref
      clear c0 c1 c2 cz e0 e1 e2 ez x0 x1 x2 x3 m5 hW5 hn5 hbg5 hbh5 e5 D1
      obtain ⟨c0, c1, c2, cz⟩ := Blk3.cells k5
      clear k5
      have M5 := Lib.hid (D5.out 0).mem
      have lo : s5.ops ≤ 301 := by omega
      have lf : s5.faults ≤ 301 := by omega
      go_wp2_with fail
      go_quiet ((first | (go_at_call 19; exact Calls.quiet_of_same (ops_q g h s5 _ (MemAt.drewN M5.out _))) | (go_at_call 20; exact Calls.quiet_of_same (faults_q g h s5 _ (MemAt.drewN M5.out _)))))
      go_wp2_with fail
      go_roundw
      case rel => exact ⟨k + 1, b5, cap5, s5, by omega, by go_num, D5.out _⟩
      case measure => simp [intOf]; omega
    · obtain rfl : k = len := by omega
      have D := Lib.hid d
      have hL := Lib.hid d.len
      clear d
      go_wp2_with fail
      refine (words_any g h _ _ D.out.mem).mono ?_
      rintro e w6 ⟨b6, he, hw6, hb6, hbl⟩
      have he' : e = .returned (.slice (some ⟨b6, 0, none⟩) n n) := by rw [he, ← hL.out]
      subst he'
      have B6 := Lib.hid (below_then D.out.bel hbl)
      have M6 := Lib.hid (D.out.mem.next hbl)
      have R6 := Lib.hid (D.out.row.next hbl)
      have W6 := Lib.hid hw6
      obtain ⟨c0, c1, c2, cz⟩ := (D.out.ref.next hbl D.out.ref.lt).cells
      clear he hw6 hbl hb6 D
      go_wp2_with fail
      go_loop [59] (fun u => ∃ i : Nat, i ≤ n ∧ u = .int .i64 i) (fun u => n - (intOf u).toNat)
      case atStart => exact ⟨0, Nat.zero_le _, rfl⟩
      case round =>
        obtain ⟨i, hi, rfl⟩ := hrel
        by_cases hl3 : i < n
        · have x1 := R6.out.at hL.out hl3
          have x2 := words_at W6.out (j := i) (by rw [← hL.out]; exact hl3)
          generalize s.ws.getD i 0 = v at *
          have l2 : (i : Int) < (n : Int) := by omega
          go_wp2_with fail
          go_round
          case rel => exact ⟨i + 1, by omega, by go_num⟩
          case measure => simp [intOf]; omega
        · obtain rfl : i = n := by omega
          have HL := Lib.hid (len_n M6.out hL.out)
          go_wp2_with fail
          refine HL.out.mono ?_
          rintro e w' ⟨rfl, rfl⟩
          go_wp2_with fail
          go_ret
          exact ⟨rfl, B6.out⟩

set_option maxHeartbeats 1000000 in
theorem does_many (n len cap : Nat) (ad : Option Addr) (w : World) (hlen : ¬ len ≤ 300) (hlen2 : len < 9223372036854775808) :
    Calls Try.prog 3 #[.int .u8 n, .slice ad len cap] w fun e w' => e = .returned (.bool true) ∧ Below w.heap.size w w' := by
  have l1 : (300 : Int) < (len : Int) := by omega
  go_enter Try.func3, Try.ntmps3
  go_wp2_with fail
  refine (speaks3 _).mono ?_
  rintro e w1 ⟨rfl, hb⟩
  have HB := Lib.hid hb
  clear hb
  go_wp2_with fail
  go_ret
  exact ⟨rfl, HB.out⟩

theorem does_walk (n len cap : Nat) (a : Option Addr) (K A : Nat → Int) (X O : Nat → Nat) (w : World) (hn : n ≤ 255) (hz : RowOp w a len K A X O) :
    Calls Try.prog 3 #[.int .u8 n, .slice a len cap] w fun e w' => e = .returned (.bool true) ∧ Below w.heap.size w w' := by
  have hl := hz.1
  unfold maxLen at hl
  by_cases h2 : len ≤ 300
  · exact does_few n len cap a K A X O w hn h2 hz
  · exact does_many n len cap a w h2 (by omega)

end Go.Proofs.Ytnjgajkcoahefaa
