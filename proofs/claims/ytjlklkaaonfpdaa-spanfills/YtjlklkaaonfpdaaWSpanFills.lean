/-
  The walk of the statement SpanFills: addresses that are put one by one, in any order, are all there at last; then nothing fits among them; each goes by itself.
-/
import Derived.Test.YtjlklkaaonfpdaaWSpanAsks
import Derived.Test.YtjlklkaaonfpdaaSpanU
import Derived.Test.YtjlklkaaonfpdaaRowU8
namespace Go.Proofs.Ytjlklkaaonfpdaa
open Go.RowKit Go.Sort

set_option maxHeartbeats 1000000 in
theorem fills_out (ad : Option Addr) (len cap : Nat) (x y : Int) (w : World) (h : 100 < len ∨ farB x = true) (hl : len < 9223372036854775808) :
    Calls Try.prog 12 #[.slice ad len cap, .agg #[.int .i64 x, .int .i64 y]] w fun e w' => e = .returned (.bool true) ∧ Below w.heap.size w w' := by
  have B0 := Lib.hid (below_alloc w (.cells #[.int .i64 x, .int .i64 y] 56))
  have D0 := Lib.hid (Duo6.new w x y)
  have HH := Lib.hid h
  clear h
  go_enter Try.func12, Try.ntmps12
  go_wp2_with fail
  generalize w.alloc (.cells #[.int .i64 x, .int .i64 y] 56) = w1 at *
  generalize hN : w.heap.size = N at *
  refine (speaks6 _).mono ?_
  rintro e w2 ⟨rfl, hb⟩
  have B2 := Lib.hid (Below.trans B0.out (hb.mono (by rw [← hN]; exact B0.out.size)))
  have D2 := Lib.hid (D0.out.next hb)
  clear hb B0 D0
  obtain ⟨c0, c1⟩ := D2.out.cells
  by_cases h1 : 100 < len
  · have d1 : decide (100 < len) = true := by simpa using h1
    have d1' : decide ((100 : Int) < (len : Int)) = true := by simp; omega
    go_wp2_with fail
    go_ret
    exact ⟨rfl, by first | exact B2.out | (rw [hN]; exact B2.out)⟩
  · have d1 : decide (100 < len) = false := by simpa using h1
    have d1' : decide ((100 : Int) < (len : Int)) = false := by simp; omega
    have hf : farB x = true := HH.out.resolve_left h1
    have HF := Lib.hid hf
    clear hf
    go_wp2_with fail
    refine (far_any x y _).mono ?_
    rintro e w3 ⟨he, hb⟩
    obtain rfl : e = .returned (.bool true) := by rw [he, HF.out]
    have B3 := Lib.hid (Below.trans B2.out (hb.mono (by rw [← hN]; exact B2.out.size)))
    clear hb he
    go_wp2_with fail
    go_ret
    exact ⟨rfl, by first | exact B3.out | (rw [hN]; exact B3.out)⟩

set_option maxRecDepth 20000 in
set_option maxHeartbeats 4000000 in
theorem fills_in (ad : Option Addr) (len cap : Nat) (f : Nat → Nat) (x y : Int) (w : World) (h1 : len ≤ 100) (hf : Hid (farB x = false)) (hr : Hid (RowU w ad len f)) :
    Calls Try.prog 12 #[.slice ad len cap, .agg #[.int .i64 x, .int .i64 y]] w fun e w' => e = .returned (.bool true) ∧ Below w.heap.size w w' := by
  have B0 := Lib.hid (below_alloc w (.cells #[.int .i64 x, .int .i64 y] 56))
  have D0 := Lib.hid (Duo6.new w x y)
  have d1 : decide (100 < len) = false := by simp; omega
  have d1' : decide ((100 : Int) < (len : Int)) = false := by simp; omega
  obtain ⟨x1, x2⟩ := far_no hf.out
  have HWN : Hid (∀ w', Below w.heap.size w w' → RowU w' ad len f) := fun w' hb => hr.out.next hb
  go_enter Try.func12, Try.ntmps12
  go_wp2_with fail
  generalize w.alloc (.cells #[.int .i64 x, .int .i64 y] 56) = w1 at *
  generalize hN : w.heap.size = N at *
  refine (speaks6 _).mono ?_
  rintro e w2 ⟨rfl, hb⟩
  have B2 := Lib.hid (Below.trans B0.out (hb.mono (by rw [← hN]; exact B0.out.size)))
  have D2 := Lib.hid (D0.out.next hb)
  clear hb B0 D0
  obtain ⟨c0, c1⟩ := D2.out.cells
  go_wp2_with fail
  refine (far_any x y _).mono ?_
  rintro e w3 ⟨he, hb⟩
  obtain rfl : e = .returned (.bool false) := by rw [he, hf.out]
  have B3 := Lib.hid (Below.trans B2.out (hb.mono (by rw [← hN]; exact B2.out.size)))
  have D3 := Lib.hid (D2.out.next hb)
  clear hb he B2 D2 c0 c1
  have lN := D3.out.lt
  have b4 := below_alloc w3 (.cells #[.slice none 0 0] 54)
  have D4 := Lib.hid (D3.out.next b4)
  have S4 : Hid (Sm w (w3.alloc (.cells #[.slice none 0 0] 54)) w3.heap.size (fun k => k = N) []) := Sm.start (by rw [hN]; exact B3.out) (fun k hk => by rw [hk]; exact lN)
  clear b4 B3 D3 lN
  go_wp2_with fail
  generalize w3.alloc (.cells #[.slice none 0 0] 54) = w4 at *
  generalize w3.heap.size = g at *
  have HSM := Lib.hid hr.out.small
  go_loopw [6, 27] (fun n u wx => ∃ (j : Nat) (L : List Iv), j ≤ len ∧ n = .int .i64 L.length ∧ u = .int .i64 j ∧ Sm w wx g (fun k => k = N) L ∧ Duo6 wx N x y ∧ UnitL L) (fun _ u _ => len - (intOf u).toNat)
  case atStart => exact ⟨0, [], Nat.zero_le _, rfl, rfl, S4.out, D4.out, unit_nil⟩
  case round =>
    obtain ⟨j, L, hj, rfl, rfl, s, d, u⟩ := hrel
    have S5 := Lib.hid s
    have D5 := Lib.hid d
    have U5 := Lib.hid u
    have hlu := unit_len S5.out.gd U5.out
    clear s d u S4 D4
    by_cases h : j < len
    · -- one more
      have l2 : (j : Int) < (len : Int) := by omega
      obtain ⟨b, off, rfl, e0⟩ := (HWN.out _ (by rw [← hN]; exact S5.out.b)).at h
      have hz := HSM.out j h
      obtain ⟨z, HZ⟩ : ∃ z, Hid (f j = z) := ⟨_, rfl⟩
      rw [HZ.out] at e0 hz
      have hz0 : (0 : Int) ≤ (z : Int) := by omega
      have hz1 : (z : Int) < 256 := by omega
      go_wp2_with fail
      refine (sm_put S5 (z : Int) 1 (by omega)).mono ?_
      rintro e w8 ⟨rfl, s, k⟩
      have D8 := Lib.hid (duo_kp D5.out k rfl)
      have S8 := Lib.hid s
      have U8 := Lib.hid (unit_put U5.out hz0 hz1)
      clear s k S5 D5
      rcases hp : putB L ((z : Int), 1) with _ | _
      · have HPL := Lib.hid (put_false hp)
        clear hp
        go_wp2_with fail
        go_roundw
        case rel => exact ⟨j + 1, _, by omega, by rw [HPL.out], rfl, S8.out, D8.out, U8.out⟩
        case measure => simp [intOf]; omega
      · have HPL := Lib.hid (put_true hp)
        have HLI := Lib.hid (len_ins ((z : Int), 1) L)
        clear hp
        go_wp2_with fail
        go_roundw
        case rel => exact ⟨j + 1, _, by omega, by rw [HPL.out, HLI.out]; rfl, rfl, S8.out, D8.out, U8.out⟩
        case measure => simp [intOf]; omega
    · obtain rfl : len = j := by omega
      go_wp2_with fail
      go_loopw [6, 38] (fun n u wx => ∃ (t : Nat) (L : List Iv), t ≤ 256 ∧ n = .int .i64 L.length ∧ u = .int .i64 t ∧ Sm w wx g (fun k => k = N) L ∧ Duo6 wx N x y ∧ UnitL L ∧ ∀ q : Int, 0 ≤ q → q < t → (q, 1) ∈ L) (fun _ u _ => 256 - (intOf u).toNat)
      case atStart => exact ⟨0, L, Nat.zero_le _, rfl, rfl, S5.out, D5.out, U5.out, fun q h1 h2 => by omega⟩
      case round =>
        obtain ⟨t, L, ht, rfl, rfl, s, d, u, al⟩ := hrel
        have S6 := Lib.hid s
        have D6 := Lib.hid d
        have U6 := Lib.hid u
        have A6 := Lib.hid al
        have hlu := unit_len S6.out.gd U6.out
        clear s d u al S5 D5 U5
        by_cases htl : t < 256
        · have t0 : (0 : Int) ≤ (t : Int) := by omega
          have t1 : (t : Int) < 256 := by omega
          have dt : decide ((t : Int) < 256) = true := by simpa using t1
          go_wp2_with fail
          refine (sm_put S6 (t : Int) 1 (by omega)).mono ?_
          rintro e w8 ⟨rfl, s, k⟩
          have D8 := Lib.hid (duo_kp D6.out k rfl)
          have S8 := Lib.hid s
          have U8 := Lib.hid (unit_put U6.out t0 t1)
          have A8 : Hid (∀ q : Int, 0 ≤ q → q < ((t + 1 : Nat) : Int) → (q, 1) ∈ putL L ((t : Int), 1)) := fun q h1 h2 => by
            by_cases e : q = t
            · subst e; exact put_in U6.out t0 t1
            · exact put_keeps (A6.out q h1 (by omega))
          clear s k S6 D6 A6
          rcases hp : putB L ((t : Int), 1) with _ | _
          · have HPL := Lib.hid (put_false hp)
            clear hp
            go_wp2_with fail
            go_roundw
            case rel => exact ⟨t + 1, _, by omega, by rw [HPL.out], rfl, S8.out, D8.out, U8.out, A8.out⟩
            case measure => simp [intOf]; omega
          · have HPL := Lib.hid (put_true hp)
            have HLI := Lib.hid (len_ins ((t : Int), 1) L)
            clear hp
            go_wp2_with fail
            go_roundw
            case rel => exact ⟨t + 1, _, by omega, by rw [HPL.out, HLI.out]; rfl, rfl, S8.out, D8.out, U8.out, A8.out⟩
            case measure => simp [intOf]; omega
        · obtain rfl : t = 256 := by omega
          obtain ⟨hfl, hfs⟩ := unit_full S6.out.gd U6.out (fun q h1 h2 => A6.out q h1 (by omega))
          have HOV := Lib.hid (over_full U6.out (fun q h1 h2 => A6.out q h1 (by omega)) x y)
          have HFS := Lib.hid hfs
          rw [hfl, show ((256 : Nat) : Int) = 256 from rfl]
          clear hfl hfs hlu
          obtain ⟨c0, c1⟩ := D6.out.cells
          have k0 := cell_regrown c0
          have k1 := cell_regrown c1
          have HBY : Hid (∀ d os, Calls Try.prog 44 #[.pointer (some ⟨g, 0, none⟩)] (grow (redrawn wr d) os) fun e w'' => e = .returned (.int .i64 256) ∧ ∃ p : Regrown, w'' = grow (redrawn wr p.d) p.os) := fun d os => by
            have h := Calls.regrown_of (sm_bytes (S6.out.grown d os))
            rw [HFS.out] at h; exact h
          have HOC : Hid (∀ d os, Calls Try.prog 41 #[.pointer (some ⟨g, 0, none⟩), .agg #[.int .i64 x, .int .i64 y]] (grow (redrawn wr d) os) fun e w'' => e = .returned (.bool (askB x y)) ∧ ∃ p : Regrown, w'' = grow (redrawn wr p.d) p.os) := fun d os => by
            have h := Calls.regrown_of (sm_over (S6.out.grown d os) x y x1 x2)
            rw [HOV.out] at h; exact h
          have HAB : Hid (askB x y = (decide (1 ≤ y) && (decide (x < 256) && (decide (0 ≤ x) || decide (-x < y))))) := rfl
          have hwn : IntKind.i64.wrap (-x) = -x := by rw [IntKind.wrap_i64]; omega
          go_upto_region 19 with fail
          go_cut [78] (fun v wx => v = .bool false ∧ Sm w wx g (fun k => k = N) L)
          case first =>
            by_cases h20 : 1 ≤ y
            · have d20 : decide (1 ≤ y) = true := by simpa using h20
              by_cases h21 : x < 256
              · have d21 : decide (x < 256) = true := by simpa using h21
                by_cases h22 : 0 ≤ x
                · have d22 : decide (0 ≤ x) = true := by simpa using h22
                  have HV : Hid (askB x y = true) := by show _ = _; rw [HAB.out]; simp only [d20, d21, d22]; rfl
                  have a1 := HBY.out
                  have a2 := HOC.out
                  rw [HV.out] at a2
                  refine wp_region_quiet_below (by kernel_rfl) (by kernel_rfl) ?_
                  repeat (go_big_quiet_step (first | exact a1 _ _ | exact a2 _ _))
                  refine wpQuiet_nil ?_
                  intro _ hw'
                  obtain ⟨⟨dq, osq⟩, hw''⟩ := hw'
                  subst hw''
                  have S7 := Lib.hid (S6.out.grown dq osq)
                  generalize Sort.grow (redrawn wr dq) osq = w7 at *
                  go_wp2_with fail
                  go_meet
                  case rel => exact ⟨rfl, S7.out⟩
                · have d22 : decide (0 ≤ x) = false := by simpa using h22
                  by_cases h23 : -x < y
                  · have d23 : decide (-x < y) = true := by simpa using h23
                    have HV : Hid (askB x y = true) := by show _ = _; rw [HAB.out]; simp only [d20, d21, d22, d23]; rfl
                    have a1 := HBY.out
                    have a2 := HOC.out
                    rw [HV.out] at a2
                    refine wp_region_quiet_below (by kernel_rfl) (by kernel_rfl) ?_
                    repeat (go_big_quiet_step (first | exact a1 _ _ | exact a2 _ _))
                    refine wpQuiet_nil ?_
                    intro _ hw'
                    obtain ⟨⟨dq, osq⟩, hw''⟩ := hw'
                    subst hw''
                    have S7 := Lib.hid (S6.out.grown dq osq)
                    generalize Sort.grow (redrawn wr dq) osq = w7 at *
                    go_wp2_with fail
                    go_meet
                    case rel => exact ⟨rfl, S7.out⟩
                  · have d23 : decide (-x < y) = false := by simpa using h23
                    have HV : Hid (askB x y = false) := by show _ = _; rw [HAB.out]; simp only [d20, d21, d22, d23]; rfl
                    have a1 := HBY.out
                    have a2 := HOC.out
                    rw [HV.out] at a2
                    refine wp_region_quiet_below (by kernel_rfl) (by kernel_rfl) ?_
                    repeat (go_big_quiet_step (first | exact a1 _ _ | exact a2 _ _))
                    refine wpQuiet_nil ?_
                    intro _ hw'
                    obtain ⟨⟨dq, osq⟩, hw''⟩ := hw'
                    subst hw''
                    have S7 := Lib.hid (S6.out.grown dq osq)
                    generalize Sort.grow (redrawn wr dq) osq = w7 at *
                    go_wp2_with fail
                    go_meet
                    case rel => exact ⟨rfl, S7.out⟩
              · have d21 : decide (x < 256) = false := by simpa using h21
                have HV : Hid (askB x y = false) := by show _ = _; rw [HAB.out]; simp only [d20, d21]; rfl
                have a1 := HBY.out
                have a2 := HOC.out
                rw [HV.out] at a2
                refine wp_region_quiet_below (by kernel_rfl) (by kernel_rfl) ?_
                repeat (go_big_quiet_step (first | exact a1 _ _ | exact a2 _ _))
                refine wpQuiet_nil ?_
                intro _ hw'
                obtain ⟨⟨dq, osq⟩, hw''⟩ := hw'
                subst hw''
                have S7 := Lib.hid (S6.out.grown dq osq)
                generalize Sort.grow (redrawn wr dq) osq = w7 at *
                go_wp2_with fail
                go_meet
                case rel => exact ⟨rfl, S7.out⟩
            · have d20 : decide (1 ≤ y) = false := by simpa using h20
              have HV : Hid (askB x y = false) := by show _ = _; rw [HAB.out]; simp only [d20]; rfl
              have a1 := HBY.out
              have a2 := HOC.out
              rw [HV.out] at a2
              refine wp_region_quiet_below (by kernel_rfl) (by kernel_rfl) ?_
              repeat (go_big_quiet_step (first | exact a1 _ _ | exact a2 _ _))
              refine wpQuiet_nil ?_
              intro _ hw'
              obtain ⟨⟨dq, osq⟩, hw''⟩ := hw'
              subst hw''
              have S7 := Lib.hid (S6.out.grown dq osq)
              generalize Sort.grow (redrawn wr dq) osq = w7 at *
              go_wp2_with fail
              go_meet
              case rel => exact ⟨rfl, S7.out⟩
          case rest =>
            obtain ⟨rfl, s⟩ := hcut
            have S7 := Lib.hid s
            clear s S6 D6 c0 c1 k0 k1 HBY HOC HAB hwn
            go_wp2_with fail
            go_loopw [81] (fun u wx => ∃ (j : Nat) (L : List Iv), j ≤ len ∧ u = .int .i64 j ∧ Sm w wx g (fun k => k = N) L ∧ UnitL L ∧ ∀ q : Int, 0 ≤ q → q < 256 → (q, 1) ∈ L ∨ ∃ k, k < j ∧ k < len ∧ (f k : Int) = q) (fun u _ => len - (intOf u).toNat)
            case atStart => exact ⟨0, L, Nat.zero_le _, rfl, S7.out, U6.out, fun q h1 h2 => .inl (A6.out q h1 (by omega))⟩
            case round =>
              obtain ⟨j, L, hj, rfl, s, u, al⟩ := hrel
              have S5 := Lib.hid s
              have U5 := Lib.hid u
              have A5 := Lib.hid al
              clear s u al S7 U6 A6
              by_cases h : j < len
              · -- one goes
                have l2 : (j : Int) < (len : Int) := by omega
                obtain ⟨b, off, rfl, e0⟩ := (HWN.out _ (by rw [← hN]; exact S5.out.b)).at h
                have hz := HSM.out j h
                obtain ⟨z, HZ⟩ : ∃ z, Hid (f j = z) := ⟨_, rfl⟩
                rw [HZ.out] at e0 hz
                have hz0 : (0 : Int) ≤ (z : Int) := by omega
                have hz1 : (z : Int) < 256 := by omega
                go_wp2_with fail
                refine (sm_drop S5 (z : Int)).mono ?_
                rintro e w8 ⟨rfl, s, k⟩
                have S8 := Lib.hid s
                have U8 := Lib.hid (unit_drop U5.out (z : Int))
                have A8 : Hid (∀ q : Int, 0 ≤ q → q < 256 → (q, 1) ∈ dropL L (z : Int) ∨ ∃ k, k < j + 1 ∧ k < len ∧ (f k : Int) = q) := fun q h1 h2 => by
                  by_cases e : q = z
                  · exact .inr ⟨j, by omega, h, by rw [HZ.out, e]⟩
                  · rcases A5.out q h1 h2 with h3 | ⟨k, h3, h4, h5⟩
                    · exact .inl (drop_keeps h3 e)
                    · exact .inr ⟨k, by omega, h4, h5⟩
                clear s k S5 A5
                go_wp2_with fail
                go_roundw
                case rel => exact ⟨j + 1, _, by omega, rfl, S8.out, U8.out, A8.out⟩
                case measure => simp [intOf]; omega
              · obtain rfl : len = j := by omega
                go_wp2_with fail
                go_loopw [91] (fun u wx => ∃ (i : Nat) (L : List Iv), i ≤ len ∧ u = .int .i64 i ∧ Sm w wx g (fun k => k = N) L ∧ UnitL L ∧ ∀ q : Int, 0 ≤ q → q < 256 → (q, 1) ∈ L ∨ ∃ k, i ≤ k ∧ k < len ∧ (f k : Int) = q) (fun u _ => len - (intOf u).toNat)
                case atStart => exact ⟨0, L, Nat.zero_le _, rfl, S5.out, U5.out, fun q h1 h2 => (A5.out q h1 h2).imp id (fun ⟨k, _, h4, h5⟩ => ⟨k, Nat.zero_le _, h4, h5⟩)⟩
                case round =>
                  obtain ⟨i, L, hi, rfl, s, u, al⟩ := hrel
                  have S6 := Lib.hid s
                  have U6 := Lib.hid u
                  have A6 := Lib.hid al
                  have hlu := unit_len S6.out.gd U6.out
                  clear s u al S5 U5 A5
                  by_cases h : i < len
                  · have l2 : (i : Int) < (len : Int) := by omega
                    obtain ⟨b, off, rfl, e0⟩ := (HWN.out _ (by rw [← hN]; exact S6.out.b)).at h
                    have hz := HSM.out i h
                    obtain ⟨z, HZ⟩ : ∃ z, Hid (f i = z) := ⟨_, rfl⟩
                    rw [HZ.out] at e0 hz
                    have hz0 : (0 : Int) ≤ (z : Int) := by omega
                    have hz1 : (z : Int) < 256 := by omega
                    go_wp2_with fail
                    refine (sm_put S6 (z : Int) 1 (by omega)).mono ?_
                    rintro e w8 ⟨rfl, s, k⟩
                    have S8 := Lib.hid s
                    have U8 := Lib.hid (unit_put U6.out hz0 hz1)
                    have A8 : Hid (∀ q : Int, 0 ≤ q → q < 256 → (q, 1) ∈ putL L ((z : Int), 1) ∨ ∃ k, i + 1 ≤ k ∧ k < len ∧ (f k : Int) = q) := fun q h1 h2 => by
                      rcases A6.out q h1 h2 with h3 | ⟨k, h3, h4, h5⟩
                      · exact .inl (put_keeps h3)
                      · by_cases e : k = i
                        · subst e
                          rw [HZ.out] at h5
                          subst h5
                          exact .inl (put_in U6.out hz0 hz1)
                        · exact .inr ⟨k, by omega, h4, h5⟩
                    clear s k A6
                    rcases hp : putB L ((z : Int), 1) with _ | _
                    · have HPL := Lib.hid (put_false hp)
                      have HGM : Hid (getO L (z : Int) = some ((z : Int), 1)) := get_mem S6.out.gd (put_no U6.out hz0 hz1 hp)
                      clear hp
                      have S9 := Lib.hid S8.out
                      rw [HPL.out] at S9
                      go_wp2_with fail
                      refine (sm_get S9 (z : Int)).mono ?_
                      rintro e w9 ⟨he, hb⟩
                      rw [HGM.out] at he
                      obtain rfl : e = .returned (.tuple #[.agg #[.int .i64 (z : Int), .int .i64 1], .bool true]) := he
                      have S10 := Lib.hid (S8.out.next hb)
                      have S11 := Lib.hid (S10.out.next (below_alloc w9 (.cells #[.int .i64 (z : Int), .int .i64 1] 56)))
                      clear hb S6
                      go_wp2_with fail
                      go_roundw
                      case rel => exact ⟨i + 1, _, by omega, rfl, S11.out, U8.out, A8.out⟩
                      case measure => simp [intOf]; omega
                    · clear hp
                      go_wp2_with fail
                      go_roundw
                      case rel => exact ⟨i + 1, _, by omega, rfl, S8.out, U8.out, A8.out⟩
                      case measure => simp [intOf]; omega
                  · obtain rfl : len = i := by omega
                    obtain ⟨_, hfs⟩ := unit_full S6.out.gd U6.out (fun q h1 h2 => (A6.out q h1 h2).resolve_right (fun ⟨k, h3, h4, _⟩ => by omega))
                    have HFS := Lib.hid hfs
                    clear hfs
                    go_wp2_with fail
                    refine (sm_bytes S6).mono ?_
                    rintro e w9 ⟨he, hb⟩
                    rw [HFS.out] at he
                    subst he
                    have HE := Lib.hid (S6.out.next hb).b
                    clear hb
                    go_wp2_with fail
                    go_ret
                    exact ⟨rfl, by first | exact HE.out | (rw [hN]; exact HE.out) | simpa [hN] using HE.out⟩

theorem fills_walk (ad : Option Addr) (len cap : Nat) (f : Nat → Nat) (x y : Int) (w : World) (hr : RowU w ad len f) :
    Calls Try.prog 12 #[.slice ad len cap, .agg #[.int .i64 x, .int .i64 y]] w fun e w' => e = .returned (.bool true) ∧ Below w.heap.size w w' := by
  have hl : len < 9223372036854775808 := by have := hr.le; unfold maxLen at this; omega
  by_cases h : 100 < len ∨ farB x = true
  · exact fills_out ad len cap x y w h hl
  · exact fills_in ad len cap f x y w (by omega) (by show farB x = false; cases hf : farB x <;> simp_all) hr

end Go.Proofs.Ytjlklkaaonfpdaa
