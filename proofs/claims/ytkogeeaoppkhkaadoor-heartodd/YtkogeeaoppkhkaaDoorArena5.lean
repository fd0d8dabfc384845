/-
  Contracts of the document's own arena: Address, Block.
-/
import Derived.Test.YtkogeeaoppkhkaaDoorArena4
namespace Go.Proofs.YtkogeeaoppkhkaaDoor
open Go.RowKit

set_option maxHeartbeats 1000000 in
theorem raddress_any (W S B T : Int) (ad : Option Addr) (len cap : Nat) (f : Nat → Int) (k s i : Int) (w : World) (hr : Hid (RowI w ad len f)) (ok : Hid (ClsOk len f)) (s0 : 0 ≤ S) (s1 : S ≤ 1000) :
    Calls Tryd.prog 84 #[.agg #[.int .i64 W, .int .i64 S, .int .i64 B, .int .i64 T, .slice ad len cap], .int .i64 k, .agg #[.int .i64 s, .int .i64 i]] w fun e w' => e = .returned (.int .i64 (adrI S len f k s i)) ∧ Below w.heap.size w w' := by
  have hb1 := below_alloc w (.cells #[.int .i64 W, .int .i64 S, .int .i64 B, .int .i64 T, .slice ad len cap] 24)
  have hb2 := below_alloc (w.alloc (.cells #[.int .i64 W, .int .i64 S, .int .i64 B, .int .i64 T, .slice ad len cap] 24)) (.cells #[.int .i64 s, .int .i64 i] 61)
  have HB := Lib.hid (below_after hb1 hb2)
  have HR := Lib.hid (hr.out.next (below_after hb1 hb2))
  have C0 := Lib.hid (cfg_next (cfg_new w W S B T (.slice ad len cap)) hb2)
  have D0' := Two5.new (w.alloc (.cells #[.int .i64 W, .int .i64 S, .int .i64 B, .int .i64 T, .slice ad len cap] 24)) 61 s i
  rw [show (w.alloc (.cells #[.int .i64 W, .int .i64 S, .int .i64 B, .int .i64 T, .slice ad len cap] 24)).heap.size = w.heap.size + 1 from by simp] at D0'
  have D0 := Lib.hid D0'
  clear hb1 hb2 D0'
  have HA : Hid (adrI S len f k s i = if s < 0 ∨ S ≤ s ∨ i < 0 ∨ capI len f k ≤ i then 0 else 65536 + 1024 * s + i * szI len f k) := rfl
  go_enter Tryd.func84, Tryd.ntmps84
  go_wp2_with fail
  generalize (w.alloc (.cells #[.int .i64 W, .int .i64 S, .int .i64 B, .int .i64 T, .slice ad len cap] 24)).alloc (.cells #[.int .i64 s, .int .i64 i] 61) = w0 at *
  generalize hN : w.heap.size = N at *
  obtain ⟨c0, c1, c2, c3, c4⟩ := cfg_cells C0.out
  obtain ⟨b0, b1⟩ := D0.out.cells
  by_cases h0 : s < 0
  · have d0 : decide (s < 0) = true := by simpa using h0
    go_quiet (fail)
    go_wp2
    go_ret
    exact ⟨by rw [HA.out, if_pos (.inl h0)]; first | done | rfl, by first | exact below_d HB.out _ | (rw [hN]; exact below_d HB.out _)⟩
  · have d0 : decide (s < 0) = false := by simpa using h0
    by_cases h1 : S ≤ s
    · have d1 : decide (S ≤ s) = true := by simpa using h1
      go_quiet (fail)
      go_wp2
      go_ret
      exact ⟨by rw [HA.out, if_pos (.inr (.inl h1))]; first | done | rfl, by first | exact below_d HB.out _ | (rw [hN]; exact below_d HB.out _)⟩
    · have d1 : decide (S ≤ s) = false := by simpa using h1
      by_cases h2 : i < 0
      · have d2 : decide (i < 0) = true := by simpa using h2
        go_quiet (fail)
        go_wp2
        go_ret
        exact ⟨by rw [HA.out, if_pos (.inr (.inr (.inl h2)))]; first | done | rfl, by first | exact below_d HB.out _ | (rw [hN]; exact below_d HB.out _)⟩
      · have d2 : decide (i < 0) = false := by simpa using h2
        have lN : N + 1 < w0.drew.heap.size := D0.out.lt
        have lN' : N < w0.drew.heap.size := by omega
        have HRd : Hid (RowI w0.drew ad len f) := HR.out
        have HCP := Lib.hid (fun w hr => rcap_any W S B T ad len cap f k w hr ok)
        have HSI := Lib.hid (szI_in (len := len) (f := f) (k := k))
        have hcb := capI_bd (k := k) ok.out
        have hzb := szI_bd (k := k) ok.out
        have HRZ : Hid (szI len f k = 0 → capI len f k = 0) := fun h => by unfold capI; rw [if_pos (by omega)]
        generalize capI len f k = R at *
        generalize szI len f k = z at *
        go_region_held3 (fun w' => w'.cell? ⟨N, 0, none⟩ = some (.int .i64 W) ∧ w'.cell? ⟨N, 1, none⟩ = some (.int .i64 S) ∧ w'.cell? ⟨N, 2, none⟩ = some (.int .i64 B) ∧ w'.cell? ⟨N, 3, none⟩ = some (.int .i64 T) ∧ w'.cell? ⟨N, 4, none⟩ = some (.slice ad len cap) ∧ w'.cell? ⟨N + 1, 0, none⟩ = some (.int .i64 s) ∧ w'.cell? ⟨N + 1, 1, none⟩ = some (.int .i64 i)) (first | (go_keep; done) | with_reducible exact ⟨s0', s1', s2, s3, s4, s5, s6⟩) ((first | (go_at_call 28; refine (HCP.out _ HRd).mono ?_; rintro e w3 ⟨rfl, hb3⟩; have s0' := (hb3.cell (p := ⟨N, 0, none⟩) lN').trans c0; have s1' := (hb3.cell (p := ⟨N, 1, none⟩) lN').trans c1; have s2 := (hb3.cell (p := ⟨N, 2, none⟩) lN').trans c2; have s3 := (hb3.cell (p := ⟨N, 3, none⟩) lN').trans c3; have s4 := (hb3.cell (p := ⟨N, 4, none⟩) lN').trans c4; have s5 := (hb3.cell (p := ⟨N + 1, 0, none⟩) lN).trans b0; have s6 := (hb3.cell (p := ⟨N + 1, 1, none⟩) lN).trans b1)))
        have HB3 : Hid (Below N w w3) := below_drew2 HB.out (Nat.le_of_lt lN') hb3
        have HR3 : Hid (RowI w3 ad len f) := HRd.out.next hb3
        have l3 : N + 1 < w3.drew.heap.size := Nat.lt_of_lt_of_le lN hb3.size
        have l3' : N < w3.drew.heap.size := by omega
        have HR3d : Hid (RowI w3.drew ad len f) := HR3.out
        clear hb3 c0 c1 c2 c3 c4 b0 b1 C0 D0 lN lN' HRd HR HR3
        by_cases h3 : R ≤ i
        · have d3 : decide (R ≤ i) = true := by simpa using h3
          go_wp2
          go_ret
          exact ⟨by rw [HA.out, if_pos (.inr (.inr (.inr h3)))]; first | done | rfl, by first | exact HB3.out | (rw [hN]; exact HB3.out)⟩
        · have d3 : decide (R ≤ i) = false := by simpa using h3
          have i1 : 0 ≤ i := by omega
          have i2 : i ≤ 63 := by omega
          have z1 : 0 ≤ z := by omega
          have z2 : z ≤ 512 := by omega
          have p1 : 0 ≤ i * z := Int.mul_nonneg i1 z1
          have p2 : i * z ≤ 63 * 512 := Int.mul_le_mul i2 z2 z1 (by omega)
          have hkk : 0 ≤ k ∧ k < len := by
            rcases hzb with h | h
            · have := HRZ.out h; omega
            · omega
          obtain ⟨n, rfl⟩ := Int.eq_ofNat_of_zero_le hkk.1
          have hn : n < len := by omega
          have l2 : (n : Int) < (len : Int) := by omega
          have HF : Hid (f n = z) := by show _ = _; have := HSI.out (by omega) (by omega); rw [Int.toNat_natCast] at this; exact this.symm
          obtain ⟨b, off, rfl, hcl⟩ := HR3d.out.at hn
          rw [HF.out] at hcl
          have hcl' : w3.cell? ⟨b, off + n, none⟩ = some (.int .i64 z) := hcl
          clear hcl
          have hw3 : IntKind.i64.wrap (z * i) = i * z := by rw [Int.mul_comm, IntKind.wrap_i64]; omega
          have hw2 : IntKind.i64.wrap (65536 + 1024 * s) = 65536 + 1024 * s := by rw [IntKind.wrap_i64]; omega
          have hw1 : IntKind.i64.wrap (1024 * s) = 1024 * s := by rw [IntKind.wrap_i64]; omega
          have hw4 : IntKind.i64.wrap (65536 + 1024 * s + i * z) = 65536 + 1024 * s + i * z := by rw [IntKind.wrap_i64]; omega
          have HE : Hid (adrI S len f (n : Int) s i = 65536 + 1024 * s + i * z) := by show _ = _; rw [HA.out, if_neg (by omega)]
          clear HA hzb hcb
          go_wp2
          go_quiet (fail)
          go_wp2
          go_ret
          exact ⟨by rw [HE.out]; first | done | rfl, by first | exact below_d HB3.out _ | (rw [hN]; exact below_d HB3.out _)⟩

theorem adr_at {S : Int} {len : Nat} {f : Nat → Int} {k a s i : Int} (ok : ClsOk len f) (s0 : 0 ≤ s) (s1 : s < S) (i0 : 0 ≤ i) (i1 : i < capI len f k) :
    adrI S len f k s i = a ↔ (blkB S len f k a = true ∧ s = (a - 65536) / 1024 ∧ i = (a - 65536) % 1024 / szI len f k) := by
  have hz := szI_bd (k := k) ok
  have hz0 : szI len f k ≠ 0 := fun e => by
    have : capI len f k = 0 := by unfold capI; rw [if_pos (by omega)]
    omega
  have hc : capI len f k = 1024 / szI len f k := by unfold capI; rw [if_neg (by omega)]
  simp only [blkB, adrI, Bool.and_eq_true, decide_eq_true_eq]
  rw [if_neg (by omega)]
  generalize hR : capI len f k = R at *
  generalize szI len f k = z at *
  have hz1 : 0 < z := by omega
  have hmul : R * z ≤ 1024 := by rw [hc]; exact Int.ediv_mul_le _ hz0
  have hiz : i * z + z ≤ R * z := by
    have : (i + 1) * z ≤ R * z := Int.mul_le_mul_of_nonneg_right (by omega) (by omega)
    rw [Int.add_mul, Int.one_mul] at this; exact this
  have hi0 : 0 ≤ i * z := Int.mul_nonneg i0 (by omega)
  constructor
  · intro h
    have e1 : (a - 65536) / 1024 = s := by omega
    have e2 : (a - 65536) % 1024 = i * z := by omega
    rw [e1, e2]
    refine ⟨⟨⟨⟨by omega, by omega⟩, Int.mul_emod_left i z⟩, ?_⟩, rfl, ?_⟩
    · rw [Int.mul_ediv_cancel _ hz0]; exact i1
    · rw [Int.mul_ediv_cancel _ hz0]
  · rintro ⟨⟨⟨⟨h1, h2⟩, h3⟩, h4⟩, h5, h6⟩
    have hd := Int.mul_ediv_add_emod ((a - 65536) % 1024) z
    rw [h3, ← h6, Int.mul_comm] at hd
    omega

/-- The state of the search for a block. -/
structure Bk (w0 w : World) (N : Nat) (W S B T : Int) (ad : Option Addr) (len cap : Nat) (f : Nat → Int) : Prop where
  c : Cfg5 w N W S B T (.slice ad len cap)
  d : Two5 w (N + 1) 61 0 0
  r : RowI w ad len f
  b : Below N w0 w
theorem Bk.next {w0 w w' : World} {N : Nat} {W S B T : Int} {ad : Option Addr} {len cap : Nat} {f : Nat → Int} (h : Bk w0 w N W S B T ad len cap f) (hb : Below w.heap.size w w') : Bk w0 w' N W S B T ad len cap f :=
  ⟨cfg_next h.c hb, h.d.next hb, h.r.next hb, h.b.trans (hb.mono (Nat.le_of_lt (cfg_lt h.c)))⟩

end Go.Proofs.YtkogeeaoppkhkaaDoor
