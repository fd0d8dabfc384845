/-
  The walk of the statement TagSame: whoever scans the same words again, by the same numbers, finds the same; nothing is written.
-/
import Derived.Test.YtlpaijobcopbnaaDoorTag5
namespace Go.Proofs.YtlpaijobcopbnaaDoor
open Go.RowKit Go.Sort Go.Maps

theorem laidL_word {f : Nat → Nat} {n j : Nat} (hj : j < n) : f j = (laidL f 0 n n).getD (0 + j) 0 := by
  rw [Nat.zero_add, laidL_at f 0 n n j hj, if_pos (by omega)]; rfl

set_option maxRecDepth 20000 in
set_option maxHeartbeats 1000000 in
theorem same_few (len cap W K : Nat) (ad : Option Addr) (f : Nat → Nat) (w : World) (hlen : len ≤ 60) (hW : W < 256) (hK : K < 256) (hr : Hid (Row64 w ad len f)) (hR : Hid (RefAt w)) :
    Calls Tryd.prog 7 #[.slice ad len cap, .int .u8 W, .int .u8 K] w fun e w' => e = .returned (.bool true) ∧ Below w.heap.size w w' := by
  have l1 : (len : Int) ≤ 60 := by omega
  go_enter Tryd.func7, Tryd.ntmps7
  go_wp2_with fail
  refine (speaks7 _ hR).mono ?_
  rintro e w1 ⟨rfl, hb⟩
  have B1 := Lib.hid hb
  clear hb
  go_wp2_with fail
  refine (new8 len _ (by omega)).mono ?_
  rintro e w2 ⟨mg, mh, rfl, m2, hg, hh, hb⟩
  have B2 := Lib.hid (below_two B1.out hb)
  have hg' : w.heap.size ≤ mg := Nat.le_trans B1.out.size hg
  have hh' : w.heap.size ≤ mh := Nat.le_trans B1.out.size hh
  clear hb hg hh B1
  go_wp2_with fail
  go_loopw [24] (fun u wr => ∃ (k : Nat) (kd a : Int), k ≤ len ∧ u = .int .i64 k ∧ MemAt wr mg mh ⟨laidL f 0 k len, k, 0, kd, a⟩ ∧ Below w.heap.size w wr) (fun u _ => len - (intOf u).toNat)
  case atStart => exact ⟨0, 0, 0, Nat.zero_le _, rfl, by rw [laidL_zero]; exact m2, B2.out⟩
  case round =>
    obtain ⟨k, kd, a, hk, rfl, hm, hB⟩ := hrel
    have BR := Lib.hid hB
    have mr := Lib.hid hm
    clear hB hm m2
    by_cases hl : k < len
    · obtain ⟨b, off, rfl, hcell⟩ := (hr.out.next BR.out).at hl
      have l3 : (k : Int) < (len : Int) := by omega
      have LS := Lib.hid (laidL_step f 0 k len)
      rw [Nat.zero_add] at LS
      have ST := Lib.hid (mstore (x := f k) mr.out (show k < (laidL f 0 k len).length by rw [laidL_len]; exact hl) (by omega))
      rw [LS.out] at ST
      generalize f k = x at *
      go_wp2_with fail
      refine ST.out.mono ?_
      rintro e w4 ⟨rfl, m4, hx⟩
      have M4 := Lib.hid m4
      have B4 := Lib.hid (below_else BR.out hg' hh' hx)
      clear hx mr m4
      go_wp2_with fail
      go_roundw
      case rel => exact ⟨k + 1, 2, k, by omega, by go_num, M4.out, B4.out⟩
      case measure => simp [intOf]; omega
    · obtain rfl : k = len := by omega
      have HF : Hid (∀ j, j < k → f j = (laidL f 0 k k).getD (0 + j) 0) := fun j hj => laidL_word hj
      have AW := Lib.hid (laidL_all hr.out.1 0 k k)
      have AL := Lib.hid (laidL_len f 0 k k)
      generalize laidL f 0 k k = ms at *
      have OK : Hid (∀ wx, Below w.heap.size w wx → Ok7 w wx mg mh 0 k ms f) := fun wx hb => ⟨by omega, by rw [AL.out]; omega, by rw [AL.out]; omega, HF.out, AW.out, hR.out, hb, hg', hh'⟩
      go_wp2_with fail
      refine (sc_new (A := 0) (W := W) (K := K) f mr.out (by omega)).mono ?_
      rintro e w5 ⟨ga, mba, rfl, h5, a1, a2, a3, a4, a5, hb⟩
      have S5 := Lib.hid h5
      have M5 := Lib.hid h5.mem
      have B5 := Lib.hid (below_two BR.out hb)
      have ml := mr.out.lt
      have q1 := BR.out.size
      clear h5 hb mr BR
      go_wp2_with fail
      refine (sc_new (A := 0) (W := W) (K := K) f M5.out (by omega)).mono ?_
      rintro e w6 ⟨gb, mbb, rfl, h6, b1, b2, b3, b4, b5, hb⟩
      have SA := Lib.hid (S5.out.next hb)
      have SB := Lib.hid h6
      have B6 := Lib.hid (below_two B5.out hb)
      have LA : Hid (∀ q ∈ [ga, mg, mh, mba], w.heap.size ≤ q) := fun q hq => by simp at hq; omega
      have q2 := B5.out.size
      have LB : Hid (∀ q ∈ [gb, mg, mh, mbb], w.heap.size ≤ q) := fun q hq => by simp at hq; omega
      have NA : Hid (ga ∉ [gb, mg, mh, mbb] ∧ mba ∉ [gb, mg, mh, mbb]) := by show _ ∧ _; simp; omega
      have NB : Hid (gb ∉ [ga, mg, mh, mba] ∧ mbb ∉ [ga, mg, mh, mba]) := by show _ ∧ _; simp; omega
      clear h6 hb S5 M5 B5 a1 a2 a3 a4 a5 b1 b2 b3 b4 b5 ml q1 q2
      go_wp2_with fail
      go_loopw [52] (fun u wq => ∃ (i op : Nat) (kd a : Int), i ≤ k ∧ u = .int .i64 i ∧ op ≤ 200 + i ∧ Sc wq ga mba mg mh 0 k i W K ms op kd a f ∧ Sc wq gb mbb mg mh 0 k 0 W K ms op kd a f ∧ Below w.heap.size w wq) (fun u _ => k - (intOf u).toNat)
      case atStart => exact ⟨0, k, kd, a, Nat.zero_le _, rfl, by omega, SA.out, SB.out, B6.out⟩
      case round =>
        obtain ⟨i, op, kd, a, hi, rfl, hop, hA, hBB, hB⟩ := hrel
        have QA := Lib.hid hA
        have QB := Lib.hid hBB
        have BQ := Lib.hid hB
        clear hA hBB hB SA SB B6
        by_cases hl2 : i < k
        · have l3 : (i : Int) < (k : Int) := by omega
          go_wp2_with fail
          refine (sc_step QA hl2 (by omega) (OK.out _ BQ.out)).mono ?_
          rintro e w7 ⟨rfl, h7, o7⟩
          have B7 := Lib.hid (below_only BQ.out o7 LA.out)
          have A7 := Lib.hid h7
          have C7 := Lib.hid (QB.out.share h7.mem o7 NB.out.1 NB.out.2)
          clear h7 o7
          go_wp2_with fail
          go_roundw
          case rel => exact ⟨i + 1, op + 1, _, _, by omega, by go_num, by omega, A7.out, C7.out, B7.out⟩
          case measure => simp [intOf]; omega
        · obtain rfl : i = k := by omega
          go_wp2_with fail
          go_loopw [59] (fun u wq => ∃ (j op : Nat) (kd a : Int), j ≤ i ∧ u = .int .i64 j ∧ op ≤ 400 + j ∧ Sc wq ga mba mg mh 0 i i W K ms op kd a f ∧ Sc wq gb mbb mg mh 0 i j W K ms op kd a f ∧ Below w.heap.size w wq) (fun u _ => i - (intOf u).toNat)
          case atStart => exact ⟨0, op, kd, a, Nat.zero_le _, rfl, by omega, QA.out, QB.out, BQ.out⟩
          case round =>
            obtain ⟨j, op, kd, a, hj, rfl, hop, hA, hBB, hB⟩ := hrel
            have PA := Lib.hid hA
            have PB := Lib.hid hBB
            have BP := Lib.hid hB
            clear hA hBB hB QA QB BQ
            by_cases hl3 : j < i
            · have l3 : (j : Int) < (i : Int) := by omega
              go_wp2_with fail
              refine (sc_step PB hl3 (by omega) (OK.out _ BP.out)).mono ?_
              rintro e w7 ⟨rfl, h7, o7⟩
              have B7 := Lib.hid (below_only BP.out o7 LB.out)
              have A7 := Lib.hid h7
              have C7 := Lib.hid (PA.out.share h7.mem o7 NA.out.1 NA.out.2)
              clear h7 o7
              go_wp2_with fail
              go_roundw
              case rel => exact ⟨j + 1, op + 1, _, _, by omega, by go_num, by omega, C7.out, A7.out, B7.out⟩
              case measure => simp [intOf]; omega
            · obtain rfl : j = i := by omega
              have MP := Lib.hid PA.out.mem
              go_wp2_with fail
              go_loop [66] (fun u => ∃ q : Nat, q ≤ j ∧ u = .int .i64 q) (fun u => j - (intOf u).toNat)
              case atStart => exact ⟨0, Nat.zero_le _, rfl⟩
              case round =>
                obtain ⟨q, hq, rfl⟩ := hrel
                by_cases hl4 : q < j
                · obtain ⟨b, off, rfl, hcell⟩ := (hr.out.next BP.out).at hl4
                  have l3 : (q : Int) < (j : Int) := by omega
                  have PK := Lib.hid (mpeek MP.out (show q < ms.length by rw [AL.out]; exact hl4))
                  have hfq := HF.out q hl4
                  rw [Nat.zero_add] at hfq
                  rw [← hfq] at PK
                  clear hfq
                  generalize f q = x at *
                  go_wp2_with fail
                  refine PK.out.mono ?_
                  rintro e w' ⟨rfl, rfl⟩
                  go_wp2_with fail
                  go_round
                  case rel => exact ⟨q + 1, by omega, by go_num⟩
                  case measure => simp [intOf]; omega
                · obtain rfl : q = j := by omega
                  go_wp2_with fail
                  refine (sc_ref PA.out (by omega)).mono ?_
                  rintro e w7 ⟨rfl, hb⟩
                  have B7 := Lib.hid (below_two BP.out hb)
                  have A7 := Lib.hid (PA.out.next hb)
                  have C7 := Lib.hid (PB.out.next hb)
                  clear hb
                  have RF := Lib.hid (sc_ref C7.out (by omega))
                  generalize mex (seen (W : Int) (K : Int) f q) = M at *
                  go_wp2_with fail
                  refine RF.out.mono ?_
                  rintro e w8 ⟨rfl, hb⟩
                  have B8 := Lib.hid (below_two B7.out hb)
                  have A8 := Lib.hid (A7.out.next hb)
                  have C8 := Lib.hid (C7.out.next hb)
                  clear hb RF
                  go_wp2_with fail
                  refine (sc_done A8.out rfl).mono ?_
                  rintro e w' ⟨rfl, rfl⟩
                  go_wp2_with fail
                  refine (sc_done C8.out rfl).mono ?_
                  rintro e w' ⟨rfl, rfl⟩
                  go_wp2_with fail
                  go_ret
                  exact ⟨rfl, B8.out⟩

set_option maxRecDepth 20000 in
set_option maxHeartbeats 1000000 in
theorem same_many (len cap W K : Nat) (ad : Option Addr) (w : World) (hlen : ¬ len ≤ 60) (hlen2 : len < 9223372036854775808) (hR : Hid (RefAt w)) :
    Calls Tryd.prog 7 #[.slice ad len cap, .int .u8 W, .int .u8 K] w fun e w' => e = .returned (.bool true) ∧ Below w.heap.size w w' := by
  have l1 : (60 : Int) < (len : Int) := by omega
  go_enter Tryd.func7, Tryd.ntmps7
  go_wp2_with fail
  refine (speaks7 _ hR).mono ?_
  rintro e w1 ⟨rfl, hb⟩
  have HB := Lib.hid hb
  clear hb
  go_wp2_with fail
  go_ret
  exact ⟨rfl, HB.out⟩

theorem same_walk (a : Option Addr) (len cap : Nat) (zs : List Int) (W K : Nat) (w : World) (hz : IsRow .u64 w a len cap zs) (hW : W < 256) (hK : K < 256) (hR : RefAt w) :
    Calls Tryd.prog 7 #[.slice a len cap, .int .u8 W, .int .u8 K] w fun e w' => e = .returned (.bool true) ∧ Below w.heap.size w w' := by
  obtain ⟨f, hf⟩ := hz.row
  have hl := hz.len
  unfold maxLen at hl
  by_cases h2 : len ≤ 60
  · exact same_few len cap W K a f w h2 hW hK hf hR
  · exact same_many len cap W K a w h2 (by omega) hR

end Go.Proofs.YtlpaijobcopbnaaDoor
