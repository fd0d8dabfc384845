/-
  Contracts of package arena: Block.
-/
import Derived.Test.YtjlklkaaonfpdaaArena2
namespace Go.Proofs.Ytjlklkaaonfpdaa
open Go.RowKit

theorem Two5.fz {w : World} {N : Nat} {t : TypeId} {a b : Int} (h : Two5 w N t a b) (j : Nat) : w.frozen? ⟨N, j, none⟩ = false := by
  unfold Two5 at h; simp [World.frozen?, h]
theorem Two5.set {w : World} {N : Nat} {t : TypeId} {a b : Int} (h : Two5 w N t a b) (c d : Int) : Two5 ((w.setCell ⟨N, 0, none⟩ (.int .i64 c)).setCell ⟨N, 1, none⟩ (.int .i64 d)) N t c d := by
  have := h.lt
  unfold Two5 at *
  simp [World.setCell, Array.getElem?_modify, h]

/-- The block of a class that begins at an address, or none. -/
def blkB (S : Int) (len : Nat) (f : Nat → Int) (k a : Int) : Bool :=
  decide (65536 ≤ a) && decide (a < 65536 + 1024 * S) && decide ((a - 65536) % 1024 % szI len f k = 0) && decide ((a - 65536) % 1024 / szI len f k < capI len f k)
def blkV (z a : Int) (b : Bool) : Value := if b then .tuple #[.agg #[.int .i64 ((a - 65536) / 1024), .int .i64 ((a - 65536) % 1024 / z)], .bool true] else .tuple #[.agg #[.int .i64 0, .int .i64 0], .bool false]
theorem blk_mod {a z : Int} (hz : z % 16 = 0) (h : a % 1024 % z = 0) : a % 16 = 0 := by
  have h1 : (a % 1024) % 16 = 0 := by
    obtain ⟨q, hq⟩ := Int.dvd_of_emod_eq_zero h
    obtain ⟨r, hr⟩ := Int.dvd_of_emod_eq_zero hz
    rw [hq, hr, Int.mul_assoc]; exact Int.mul_emod_right _ _
  omega
theorem blk_no_place {S : Int} {len : Nat} {f : Nat → Int} {k a : Int} (ok : ClsOk len f) (h : a < 65536 ∨ 65536 + 1024 * S ≤ a ∨ a % 16 ≠ 0) : blkB S len f k a = false := by
  rcases hb : blkB S len f k a with _ | _
  · rfl
  · simp only [blkB, Bool.and_eq_true, decide_eq_true_eq] at hb
    obtain ⟨⟨⟨h1, h2⟩, h3⟩, h4⟩ := hb
    rcases h with h | h | h
    · omega
    · omega
    · rcases szI_bd (k := k) ok with hz | hz
      · exfalso
        have : capI len f k = 0 := by unfold capI; rw [if_pos (by omega)]
        rw [this, hz, Int.ediv_zero] at h4; omega
      · have := blk_mod hz.2.2.1 h3; omega
theorem blk_no_cap {S : Int} {len : Nat} {f : Nat → Int} {k a : Int} (ok : ClsOk len f) (h : capI len f k = 0) : blkB S len f k a = false := by
  rcases hb : blkB S len f k a with _ | _
  · rfl
  · simp only [blkB, Bool.and_eq_true, decide_eq_true_eq] at hb
    obtain ⟨⟨⟨h1, h2⟩, h3⟩, h4⟩ := hb
    have : 0 ≤ (a - 65536) % 1024 / szI len f k := Int.ediv_nonneg (by omega) (by have := szI_bd (k := k) ok; omega)
    omega
theorem blk_iff {S : Int} {len : Nat} {f : Nat → Int} {k a : Int} (ok : ClsOk len f) (h0 : 65536 ≤ a) (h1 : a < 65536 + 1024 * S) (hc : capI len f k ≠ 0) :
    blkB S len f k a = (adrI S len f k ((a - 65536) / 1024) ((a - 65536) % 1024 / szI len f k) == a) := by
  have hz := szI_bd (k := k) ok
  have hz0 : szI len f k ≠ 0 := fun e => hc (by unfold capI; rw [if_pos (by omega)])
  rw [Bool.eq_iff_iff]
  simp only [blkB, adrI, Bool.and_eq_true, decide_eq_true_eq, beq_iff_eq]
  generalize capI len f k = R at *
  generalize szI len f k = z at *
  have hd := Int.mul_ediv_add_emod ((a - 65536) % 1024) z
  have hq : 0 ≤ (a - 65536) % 1024 / z := Int.ediv_nonneg (by omega) (by omega)
  rw [Int.mul_comm] at hd
  generalize (a - 65536) % 1024 / z = q at *
  generalize (a - 65536) % 1024 % z = r at *
  constructor
  · rintro ⟨⟨⟨_, _⟩, h3⟩, h4⟩
    rw [if_neg (by omega)]
    generalize q * z = p at *
    omega
  · intro h
    split at h
    · omega
    · rename_i hn
      refine ⟨⟨⟨h0, h1⟩, ?_⟩, by omega⟩
      generalize q * z = p at *
      omega

set_option maxHeartbeats 1000000 in
theorem block_any (W S B T : Int) (ad : Option Addr) (len cap : Nat) (f : Nat → Int) (k a : Int) (w : World) (hr : Hid (RowI w ad len f)) (ok : Hid (ClsOk len f)) (s0 : 0 ≤ S) (s1 : S ≤ 1000) :
    Calls Try.prog 22 #[.agg #[.int .i64 W, .int .i64 S, .int .i64 B, .int .i64 T, .slice ad len cap], .int .i64 k, .int .i64 a] w fun e w' => e = .returned (blkV (szI len f k) a (blkB S len f k a)) ∧ Below w.heap.size w w' := by
  have hb1 := below_alloc w (.cells #[.int .i64 W, .int .i64 S, .int .i64 B, .int .i64 T, .slice ad len cap] 24)
  have hb2 := below_alloc (w.alloc (.cells #[.int .i64 W, .int .i64 S, .int .i64 B, .int .i64 T, .slice ad len cap] 24)) (.cells #[.int .i64 0, .int .i64 0] 34)
  have HB := Lib.hid (below_after hb1 hb2)
  have HR := Lib.hid (hr.out.next (below_after hb1 hb2))
  have C0 := Lib.hid (cfg_next (cfg_new w W S B T (.slice ad len cap)) hb2)
  have D0' := Two5.new (w.alloc (.cells #[.int .i64 W, .int .i64 S, .int .i64 B, .int .i64 T, .slice ad len cap] 24)) 34 0 0
  rw [show (w.alloc (.cells #[.int .i64 W, .int .i64 S, .int .i64 B, .int .i64 T, .slice ad len cap] 24)).heap.size = w.heap.size + 1 from by simp] at D0'
  have D0 := Lib.hid D0'
  clear hb1 hb2 D0'
  by_cases hp : a < 65536 ∨ 65536 + 1024 * S ≤ a ∨ a % 16 ≠ 0
  · have HV : Hid (blkV (szI len f k) a (blkB S len f k a) = .tuple #[.agg #[.int .i64 0, .int .i64 0], .bool false]) := by show _ = _; rw [blk_no_place ok.out hp]; rfl
    have HP := Lib.hid hp
    clear hp
    go_enter Try.func22, Try.ntmps22
    go_wp2_with fail
    generalize (w.alloc (.cells #[.int .i64 W, .int .i64 S, .int .i64 B, .int .i64 T, .slice ad len cap] 24)).alloc (.cells #[.int .i64 0, .int .i64 0] 34) = w0 at *
    refine (place_no _ _ _ _ _ _ _ s0 s1 HP.out).mono ?_
    rintro e w1 ⟨rfl, hb⟩
    have D1 := Lib.hid (D0.out.next hb)
    have HB1 := Lib.hid (below_after HB.out hb)
    clear hb
    obtain ⟨b0, b1⟩ := D1.out.cells
    have z0 := D1.out.fz 0
    have z1 := D1.out.fz 1
    obtain ⟨r0, r1⟩ := (D1.out.set 0 0).cells
    go_wp2_with fail
    exact bodyPost_ret (v := .tuple #[.agg #[.int .i64 0, .int .i64 0], .bool false]) (by simp [results, Try.results22, go_sem, r0, r1]) rfl ⟨by rw [HV.out], (HB1.out.setCell (Nat.le_succ _) _).setCell (Nat.le_succ _) _⟩
  · have p0 : 65536 ≤ a := by omega
    have p1 : a < 65536 + 1024 * S := by omega
    have P2 : Hid (a % 16 = 0) := by show a % 16 = 0; omega
    clear hp
    have HI := Lib.hid (fun hc => blk_iff (S := S) (a := a) (k := k) ok.out p0 p1 hc)
    have HN := Lib.hid (fun hc => blk_no_cap (S := S) (a := a) (k := k) ok.out hc)
    have HX := Lib.hid (fun w hr i j => address_any W S B T ad len cap f k i j w hr ok s0 s1)
    have HSZ := Lib.hid (fun w hr => sizeOf_any W S B T ad len cap f k w hr)
    have hcb := capI_bd (k := k) ok.out
    have hzb := szI_bd (k := k) ok.out
    have HC0 : Hid (szI len f k = 0 → capI len f k = 0) := fun h => by unfold capI; rw [if_pos (by omega)]
    generalize hM : blkB S len f k a = M at *
    clear hM
    go_enter Try.func22, Try.ntmps22
    go_wp2_with fail
    generalize (w.alloc (.cells #[.int .i64 W, .int .i64 S, .int .i64 B, .int .i64 T, .slice ad len cap] 24)).alloc (.cells #[.int .i64 0, .int .i64 0] 34) = w0 at *
    generalize hN : w.heap.size = N at *
    refine (place_yes _ _ _ _ _ _ _ s0 s1 p0 p1 P2.out).mono ?_
    rintro e w1 ⟨rfl, hb⟩
    have D1 := Lib.hid (D0.out.next hb)
    have C1 := Lib.hid (cfg_next C0.out hb)
    have R1 := Lib.hid (HR.out.next hb)
    have HB1 : Hid (Below N w w1) := HB.out.trans (hb.mono (Nat.le_of_lt (cfg_lt C0.out)))
    clear hb D0 C0 HR HB
    rw [show (a - 65536) / 16 / 64 = (a - 65536) / 1024 from by omega]
    have g1 : (a - 65536) / 16 % 64 * 16 = (a - 65536) % 1024 := by have := P2.out; omega
    have G1 := Lib.hid g1
    clear g1
    have g2 : 0 ≤ (a - 65536) / 16 % 64 := by omega
    have g3 : (a - 65536) / 16 % 64 < 64 := by omega
    obtain ⟨c0, c1, c2, c3, c4⟩ := cfg_cells C1.out
    go_wp2_with fail
    refine (cap_any W S B T ad len cap f k _ R1 ok).mono ?_
    rintro e w2 ⟨rfl, hb⟩
    have D2 := Lib.hid (D1.out.next hb)
    have C2 := Lib.hid (cfg_next C1.out hb)
    have R2 := Lib.hid (R1.out.next hb)
    have HB2 : Hid (Below N w w2) := HB1.out.trans (hb.mono (Nat.le_of_lt (cfg_lt C1.out)))
    clear hb D1 C1 R1 HB1 c0 c1 c2 c3 c4
    obtain ⟨c0, c1, c2, c3, c4⟩ := cfg_cells C2.out
    generalize capI len f k = R at *
    by_cases hc : R = 0
    · have HM := Lib.hid (HN.out hc)
      have HV : Hid (blkV (szI len f k) a M = .tuple #[.agg #[.int .i64 0, .int .i64 0], .bool false]) := by show _ = _; rw [HM.out]; rfl
      subst hc
      obtain ⟨b0, b1⟩ := D2.out.cells
      have z0 := D2.out.fz 0
      have z1 := D2.out.fz 1
      obtain ⟨r0, r1⟩ := (D2.out.set 0 0).cells
      go_wp2_with fail
      exact bodyPost_ret (v := .tuple #[.agg #[.int .i64 0, .int .i64 0], .bool false]) (by simp [results, Try.results22, go_sem, r0, r1]) rfl ⟨by rw [HV.out], by rw [hN]; exact (HB2.out.setCell (Nat.le_succ _) _).setCell (Nat.le_succ _) _⟩
    · have hcb' : (R == 0) = false := by simpa using hc
      have HM := Lib.hid (HI.out hc)
      have zne : szI len f k ≠ 0 := fun h => hc (HC0.out h)
      clear HI HN HC0
      go_wp2_with fail
      refine (HSZ.out _ R2).mono ?_
      rintro e w3 ⟨rfl, hb⟩
      have D3 := Lib.hid (D2.out.next hb)
      have C3 := Lib.hid (cfg_next C2.out hb)
      have R3 := Lib.hid (R2.out.next hb)
      have HB3 : Hid (Below N w w3) := HB2.out.trans (hb.mono (Nat.le_of_lt (cfg_lt C2.out)))
      clear hb D2 C2 R2 HB2 c0 c1 c2 c3 c4 HSZ
      generalize hzz : szI len f k = z at *
      have HZZ := Lib.hid hzz
      clear hzz
      have z1 : 16 ≤ z := by omega
      have z2 : z ≤ 512 := by omega
      clear hzb zne
      have G2 := Lib.hid (show (a - 65536) / 16 % 64 * 16 / z = (a - 65536) % 1024 / z by rw [G1.out])
      have q1 : 0 ≤ (a - 65536) / 16 % 64 * 16 / z := Int.ediv_nonneg (by omega) (by omega)
      have q2 : (a - 65536) / 16 % 64 * 16 / z ≤ 1024 := by
        have := Int.ediv_le_self (a := (a - 65536) / 16 % 64 * 16) z (by omega)
        omega
      generalize (a - 65536) / 16 % 64 = g at *
      obtain ⟨c0, c1, c2, c3, c4⟩ := cfg_cells C3.out
      have lN : N < w3.heap.size := cfg_lt C3.out
      have lN' : ¬ N = w3.heap.size := by omega
      have hba := below_alloc w3 (.cells #[.int .i64 ((a - 65536) / 1024), .int .i64 (g * 16 / z)] 34)
      have E4 := Lib.hid (Two5.new w3 34 ((a - 65536) / 1024) (g * 16 / z))
      have D4 := Lib.hid (D3.out.next hba)
      have R4 := Lib.hid (R3.out.next hba)
      have HB4 : Hid (Below N w (w3.alloc (.cells #[.int .i64 ((a - 65536) / 1024), .int .i64 (g * 16 / z)] 34))) := HB3.out.trans (hba.mono (Nat.le_of_lt lN))
      clear hba
      go_wp2_with fail
      rw [G2.out] at *
      generalize w3.alloc (.cells #[.int .i64 ((a - 65536) / 1024), .int .i64 ((a - 65536) % 1024 / z)] 34) = w4 at *
      generalize hM3 : w3.heap.size = N3 at *
      refine (HX.out _ R4 _ _).mono ?_
      rintro e w5 ⟨rfl, hb⟩
      have D5 := Lib.hid (D4.out.next hb)
      have E5 := Lib.hid (E4.out.next hb)
      have HB5 : Hid (Below N w w5) := HB4.out.trans (hb.mono (by have := E4.out.lt; omega))
      clear hb D4 E4 R4 HB4 D3 C3 R3 HB3 c0 c1 c2 c3 c4
      generalize adrI S len f k ((a - 65536) / 1024) ((a - 65536) % 1024 / z) = A at *
      obtain ⟨b0, b1⟩ := D5.out.cells
      have y0 := D5.out.fz 0
      have y1 := D5.out.fz 1
      obtain ⟨e0, e1⟩ := E5.out.cells
      by_cases hA : A = a
      · have HV : Hid (blkV z a M = .tuple #[.agg #[.int .i64 ((a - 65536) / 1024), .int .i64 ((a - 65536) % 1024 / z)], .bool true]) := by show _ = _; rw [HM.out, show (A == a) = true from by simpa using hA]; rfl
        have dA : (A != a) = false := by simpa using hA
        clear hA
        obtain ⟨r0, r1⟩ := (D5.out.set ((a - 65536) / 1024) ((a - 65536) % 1024 / z)).cells
        go_wp2_with fail
        exact bodyPost_ret (v := .tuple #[.agg #[.int .i64 ((a - 65536) / 1024), .int .i64 ((a - 65536) % 1024 / z)], .bool true]) (by simp [results, Try.results22, go_sem, r0, r1]) rfl ⟨by rw [HZZ.out, HV.out], by rw [hN]; exact (HB5.out.setCell (Nat.le_succ _) _).setCell (Nat.le_succ _) _⟩
      · have HV : Hid (blkV z a M = .tuple #[.agg #[.int .i64 0, .int .i64 0], .bool false]) := by show _ = _; rw [HM.out, show (A == a) = false from by simpa using hA]; rfl
        have dA : (A != a) = true := by simpa using hA
        clear hA
        obtain ⟨r0, r1⟩ := (D5.out.set 0 0).cells
        go_wp2_with fail
        exact bodyPost_ret (v := .tuple #[.agg #[.int .i64 0, .int .i64 0], .bool false]) (by simp [results, Try.results22, go_sem, r0, r1]) rfl ⟨by rw [HZZ.out, HV.out], by rw [hN]; exact (HB5.out.setCell (Nat.le_succ _) _).setCell (Nat.le_succ _) _⟩
end Go.Proofs.Ytjlklkaaonfpdaa
