/-
  The walk of the statement SlotCopies: words are copied as they are at the step of each, a step and an access each.
-/
import Derived.Test.YtlpaijobcopbnaaSlot6
namespace Go.Proofs.Ytlpaijobcopbnaa
open Go.RowKit Go.Sort

theorem words_set' {w : World} {b j : Nat} {ys : List Nat} (hw : w.heap[b]? = some (.cells (wordsOf ys) 35 (0, 0))) (x : Nat) : (w.setCell ⟨b, j, none⟩ (.int .u64 (x : Int))).heap[b]? = some (.cells (wordsOf (ys.set j x)) 35 (0, 0)) := by
  rw [set_of hw]; congr 1; simp [wordsOf]
set_option maxRecDepth 20000 in
set_option maxHeartbeats 1000000 in
theorem copies_few (o0 o1 L cap L2 cap2 : Nat) (ad ad2 : Option Addr) (f f2 : Nat → Nat) (w : World) (h0 : o0 < 256) (h1 : o1 < 256) (hL : L ≤ 200) (hL2 : L2 ≤ 200) (hr : Hid (Row64 w ad L f)) (hr2 : Hid (Row64 w ad2 L2 f2)) :
    Calls Try.prog 4 #[.slice ad L cap, .agg #[.int .u8 o0, .int .u8 o1], .slice ad2 L2 cap2] w fun e w' => e = .returned (.bool true) ∧ Below w.heap.size w w' := by
  have l1 : (L : Int) ≤ 200 := by omega
  have l2 : (L2 : Int) ≤ 200 := by omega
  obtain ⟨at_, hat⟩ : ∃ q : Nat, min (o0 : Int) (L : Int) = q := ⟨min o0 L, by omega⟩
  obtain ⟨n, hn⟩ : ∃ q : Nat, min (o1 : Int) ((L : Int) - (at_ : Int)) = q := ⟨min o1 (L - at_), by omega⟩
  have HA : Hid (at_ + n ≤ L) := by show at_ + n ≤ L; omega
  have ha2 : at_ ≤ 200 := by omega
  have hn2 : n ≤ 200 := by omega
  have E0 : Hid ((w.alloc (.cells #[.int .u8 o0, .int .u8 o1] 32)).cell? ⟨w.heap.size, 0, none⟩ = some (.int .u8 o0) ∧ (w.alloc (.cells #[.int .u8 o0, .int .u8 o1] 32)).cell? ⟨w.heap.size, 1, none⟩ = some (.int .u8 o1)) := ⟨by simp, by simp⟩
  have B0 := Lib.hid (box1 w (.cells #[.int .u8 o0, .int .u8 o1] 32))
  have NB : Hid (w.heap.size < (w.alloc (.cells #[.int .u8 o0, .int .u8 o1] 32)).heap.size) := by show _ < _; simp
  go_enter Try.func4, Try.ntmps4
  go_wp2_with fail
  generalize w.alloc (.cells #[.int .u8 o0, .int .u8 o1] 32) = wa at *
  refine (speaks8 _).mono ?_
  rintro e w1 ⟨rfl, hb⟩
  have B1 := Lib.hid (below_two B0.out hb)
  have E1 : Hid (w1.cell? ⟨w.heap.size, 0, none⟩ = some (.int .u8 o0) ∧ w1.cell? ⟨w.heap.size, 1, none⟩ = some (.int .u8 o1)) := ⟨(hb.cell (p := ⟨w.heap.size, 0, none⟩) NB.out).trans E0.out.1, (hb.cell (p := ⟨w.heap.size, 1, none⟩) NB.out).trans E0.out.2⟩
  have NB1 : Hid (w.heap.size < w1.heap.size) := Nat.lt_of_lt_of_le NB.out hb.size
  clear hb B0 E0 NB
  go_wp2_with fail
  refine (new8 L _ (by omega)).mono ?_
  rintro e w2 ⟨mg, mh, rfl, m2, hg, hh, hb⟩
  have B2 := Lib.hid (below_two B1.out hb)
  have E2 : Hid (w2.cell? ⟨w.heap.size, 0, none⟩ = some (.int .u8 o0) ∧ w2.cell? ⟨w.heap.size, 1, none⟩ = some (.int .u8 o1)) := ⟨(hb.cell (p := ⟨w.heap.size, 0, none⟩) NB1.out).trans E1.out.1, (hb.cell (p := ⟨w.heap.size, 1, none⟩) NB1.out).trans E1.out.2⟩
  have hg' : w.heap.size < mg := Nat.lt_of_lt_of_le NB1.out hg
  have hh' : w.heap.size < mh := Nat.lt_of_lt_of_le NB1.out hh
  clear hb hg hh B1 E1
  go_wp2_with fail
  go_loopw [36] (fun u wr => ∃ (k : Nat) (kd a : Int), k ≤ L ∧ u = .int .i64 k ∧ MemAt wr mg mh ⟨laidL f 0 k L, k, 0, kd, a⟩ ∧ (wr.cell? ⟨w.heap.size, 0, none⟩ = some (.int .u8 o0) ∧ wr.cell? ⟨w.heap.size, 1, none⟩ = some (.int .u8 o1)) ∧ Below w.heap.size w wr) (fun u _ => L - (intOf u).toNat)
  case atStart => exact ⟨0, 0, 0, Nat.zero_le _, rfl, by rw [laidL_zero]; exact m2, E2.out, B2.out⟩
  case round =>
    obtain ⟨k, kd, a, hk, rfl, hm, hE, hB⟩ := hrel
    have BR := Lib.hid hB
    have ER := Lib.hid hE
    have mr := Lib.hid hm
    clear hB hE hm m2
    by_cases hl : k < L
    · obtain ⟨b, off, rfl, hcell⟩ := (hr.out.next BR.out).at hl
      have l3 : (k : Int) < (L : Int) := by omega
      have LS := Lib.hid (laidL_step f 0 k L)
      rw [Nat.zero_add] at LS
      have ST := Lib.hid (mstore (x := f k) mr.out (show k < (laidL f 0 k L).length by rw [laidL_len]; exact hl) (by omega))
      rw [LS.out] at ST
      generalize f k = x at *
      go_wp2_with fail
      refine ST.out.mono ?_
      rintro e w4 ⟨rfl, m4, hx⟩
      have M4 := Lib.hid m4
      have B4 := Lib.hid (below_else BR.out (by omega) (by omega) hx)
      have E4 : Hid (w4.cell? ⟨w.heap.size, 0, none⟩ = some (.int .u8 o0) ∧ w4.cell? ⟨w.heap.size, 1, none⟩ = some (.int .u8 o1)) := by
        have hb := hx.block w.heap.size (World.block_lt_of_cell? _ _ ER.out.1) (by omega) (by omega)
        exact ⟨(World.cell?_of_block hb).trans ER.out.1, (World.cell?_of_block hb).trans ER.out.2⟩
      clear hx mr m4
      go_wp2_with fail
      go_roundw
      case rel => exact ⟨k + 1, 2, k, by omega, by go_num, M4.out, E4.out, B4.out⟩
      case measure => simp [intOf]; omega
    · obtain rfl : k = L := by omega
      obtain ⟨e0, e1⟩ := ER.out
      have AW := Lib.hid (laidL_all hr.out.1 0 k k)
      have AL := Lib.hid (laidL_len f 0 k k)
      generalize laidL f 0 k k = ms0 at *
      go_upto_region 11 with fail
      go_cut [10] (fun v10 wx => v10 = .int .i64 at_ ∧ wx = wr)
      case first =>
        go_wp2_with fail
        all_goals
          go_meet
          case rel => exact ⟨by congr 1; omega, rfl⟩
      case rest =>
       obtain ⟨rfl, rfl⟩ := hcut
       go_upto_region 12 with fail
       go_cut [11] (fun v11 wx => v11 = .int .i64 n ∧ wx = wc)
       case first =>
        go_wp2_with fail
        all_goals
          go_meet
          case rel => exact ⟨by congr 1; omega, rfl⟩
       case rest =>
      obtain ⟨rfl, rfl⟩ := hcut
      go_wp2_with fail
      refine (copy_any mg mh _ at_ n _ mr.out (by omega)).mono ?_
      rintro e w5 ⟨rfl, hC, hb⟩
      have B5 := Lib.hid (below_two BR.out hb)
      have hbs : w.heap.size < wc.heap.size := World.block_lt_of_cell? _ _ e0
      generalize hg0 : wc.heap.size = g at *
      have LO : Hid (∀ q ∈ copL g mg mh (.slice none 0 0), w.heap.size ≤ q) := fun q hq => by
        rcases copL_mem.1 hq with e | e | e | e
        · omega
        · omega
        · omega
        · cases e
      have C5 : Hid (CpSt w w5 g mg mh at_ n k 0 k (.slice none 0 0) (.slice none 0 0) [] ms0 kd a) :=
        ⟨hC, WRw.nil _, fun q hq => by (cases hq), LO.out, rfl, fun _ h => by (cases h), AL.out, AW.out, B5.out⟩
      clear hC hb mr ER e0 e1 BR B5 AW AL
      go_wp2_with fail
      go_loopw [13, 65] (fun vw u wq => ∃ (i op cw : Nat) (aw : Option Addr) (v : Value) (xs ms : List Nat) (kd a : Int), vw = .slice aw i cw ∧ i ≤ n ∧ u = .int .i64 i ∧ op ≤ 200 + 3 * i ∧ CpSt w wq g mg mh at_ n k i op v (.slice aw i cw) xs ms kd a) (fun _ u _ => n - (intOf u).toNat)
      case atStart => exact ⟨0, k, 0, none, _, _, _, _, _, rfl, Nat.zero_le _, rfl, by omega, C5.out⟩
      case round =>
        obtain ⟨i, op, cw, aw, v, xs, ms, kd, a, rfl, hi, rfl, hop, hC⟩ := hrel
        have CQ := Lib.hid hC
        clear hC C5
        by_cases hl2 : i < n
        · have l3 : (i : Int) < (n : Int) := by omega
          have hai : at_ + i < ms.length := by have := CQ.out.ml; have := HA.out; omega
          have PK : Hid (Calls Try.prog 21 #[.pointer (some ⟨mg, 0, none⟩), .int .i64 ((at_ : Int) + (i : Int))] wr fun e w' => e = .returned (.int .u64 (ms.getD (at_ + i) 0 : Nat)) ∧ wr = w') := by
            have := mpeek CQ.out.c.mem hai
            rw [show ((at_ + i : Nat) : Int) = (at_ : Int) + (i : Int) by omega] at this
            exact this
          have RD : Hid (MSt.rd ⟨ms, op, 0, kd, a⟩ ((at_ + i : Nat) : Int) = ms.getD (at_ + i) 0) := rd_at hai
          have BG : Hid (MSt.begun ⟨ms, op, 0, kd, a⟩ 1 ((at_ + i : Nat) : Int) = ⟨ms, op + 1, 0, 1, ((at_ + i : Nat) : Int)⟩) := begun_at 1 hai
          have XW := Lib.hid (CQ.out.mw.get (at_ + i))
          clear hai
          generalize ms.getD (at_ + i) 0 = X at *
          go_wp2_with fail
          refine PK.out.mono ?_
          rintro e w' ⟨rfl, rfl⟩
          clear PK
          obtain ⟨vw', w6, hrun, hr6, hc6, hap6, hb6⟩ := CQ.out.app (by omega) X 31
          obtain ⟨a6, c6, hv6⟩ := hr6.form
          rw [List.length_append, CQ.out.xl] at hv6
          have hv6' : vw' = .slice a6 (i + 1) c6 := hv6
          subst hv6'
          clear hv6
          have R6 := Lib.hid hr6
          have C6 := Lib.hid hc6
          have M6 := Lib.hid hc6.mem
          have A6 := Lib.hid hap6
          have B6 := Lib.hid hb6
          clear hr6 hc6 hap6 hb6
          go_wp2_with (at_builtin; refine wpList_append_run rfl (.tmp 68) (.tmp 74) 31 31 rfl (.slice aw i cw) (.slice (some ⟨wr.heap.size, 0, none⟩) 1 1) (by rfl) (by rfl) hrun ?_)
          go_wp2_with fail
          refine (ops_any mg mh _ _ M6.out).mono ?_
          rintro e w' ⟨rfl, rfl⟩
          go_wp2_with fail
          refine (cops_step C6 hl2 (by omega) (by omega) CQ.out.xl (show op < 100000 by omega) rfl).mono ?_
          rintro e w7 ⟨he, v', h7, ho7, hO7⟩
          rw [BG.out, RD.out] at h7
          have C7 := Lib.hid (cps_step R6.out CQ.out.lo A6.out B6.out CQ.out.xl CQ.out.xw XW.out CQ.out.ml CQ.out.mw h7 ho7 hO7)
          have M7 := Lib.hid h7.mem
          clear h7 ho7 hO7 R6 A6 B6 C6 M6 CQ BG RD hrun
          by_cases hkn : i + 1 = n
          · have nE : ((i : Int) == (n : Int) - 1) = true := by simp; omega
            rw [decide_eq_true hkn] at he
            subst he
            go_wp2_with fail
            refine (ops_any mg mh _ _ M7.out).mono ?_
            rintro e w' ⟨rfl, rfl⟩
            by_cases hc2 : i < L2
            · obtain ⟨b2, off2, rfl, hcell2⟩ := (hr2.out.next C7.out.b).at hc2
              have l5 : (i : Int) < (L2 : Int) := by omega
              have S1 := Lib.hid (mstore (j := at_) (x := f2 i) C7.out.c.mem (by have := C7.out.ml; have := HA.out; omega) (by omega))
              have YW := Lib.hid (hr2.out.1 i)
              have FY := Lib.hid fun (wx : World) (hb : Below w.heap.size w wx) => (hr2.out.next hb).at hc2
              generalize f2 i = y at *
              go_wp2_with fail
              refine S1.out.mono ?_
              rintro e w8 ⟨rfl, m8, hx⟩
              have C8 := Lib.hid (C7.out.store m8 hx (by rw [List.length_set]; exact C7.out.ml) (C7.out.mw.set _ YW.out))
              obtain ⟨b3, off3, hb3, hcell3⟩ := FY.out _ C8.out.b
              cases hb3
              have S2 : Hid (Calls Try.prog 19 #[.pointer (some ⟨mg, 0, none⟩), .int .i64 ((at_ : Int) + (n : Int) - 1), .int .u64 (y : Int)] w8 fun e w' => e = .returned (.tuple #[]) ∧ MemAt w' mg mh ⟨(ms.set at_ y).set (at_ + n - 1) y, op + 1 + 1 + 1, 0, 2, ((at_ + n - 1 : Nat) : Int)⟩ ∧ Else mg mh w8 w') := by
                have := mstore (j := at_ + n - 1) (x := y) C8.out.c.mem (by have := C8.out.ml; have := HA.out; omega) (by omega)
                rw [show ((at_ + n - 1 : Nat) : Int) = (at_ : Int) + (n : Int) - 1 by omega] at this
                rw [show ((at_ + n - 1 : Nat) : Int) = (at_ : Int) + (n : Int) - 1 by omega]
                exact this
              clear m8 hx S1 C7
              go_wp2_with fail
              refine S2.out.mono ?_
              rintro e w9 ⟨rfl, m9, hx⟩
              have C9 := Lib.hid (C8.out.store m9 hx (by rw [List.length_set]; exact C8.out.ml) (C8.out.mw.set _ YW.out))
              clear m9 hx C8 S2 hcell2 hcell3
              go_wp2_with fail
              go_roundw
              case rel => exact ⟨i + 1, op + 1 + 1 + 1, c6, a6, _, _, _, _, _, by go_num, by omega, by go_num, by omega, C9.out⟩
              case measure => simp [intOf]; omega
            · have l5 : decide ((i : Int) < (L2 : Int)) = false := by simp; omega
              go_wp2_with fail
              go_roundw
              case rel => exact ⟨i + 1, op + 1, c6, a6, _, _, _, _, _, by go_num, by omega, by go_num, by omega, C7.out⟩
              case measure => simp [intOf]; omega
          · have nE : ((i : Int) == (n : Int) - 1) = false := by simp; omega
            rw [decide_eq_false hkn] at he
            subst he
            go_wp2_with fail
            refine (ops_any mg mh _ _ M7.out).mono ?_
            rintro e w' ⟨rfl, rfl⟩
            by_cases hc2 : i < L2
            · obtain ⟨b2, off2, rfl, hcell2⟩ := (hr2.out.next C7.out.b).at hc2
              have l5 : (i : Int) < (L2 : Int) := by omega
              have S1 := Lib.hid (mstore (j := at_) (x := f2 i) C7.out.c.mem (by have := C7.out.ml; have := HA.out; omega) (by omega))
              have YW := Lib.hid (hr2.out.1 i)
              have FY := Lib.hid fun (wx : World) (hb : Below w.heap.size w wx) => (hr2.out.next hb).at hc2
              generalize f2 i = y at *
              go_wp2_with fail
              refine S1.out.mono ?_
              rintro e w8 ⟨rfl, m8, hx⟩
              have C8 := Lib.hid (C7.out.store m8 hx (by rw [List.length_set]; exact C7.out.ml) (C7.out.mw.set _ YW.out))
              obtain ⟨b3, off3, hb3, hcell3⟩ := FY.out _ C8.out.b
              cases hb3
              have S2 : Hid (Calls Try.prog 19 #[.pointer (some ⟨mg, 0, none⟩), .int .i64 ((at_ : Int) + (n : Int) - 1), .int .u64 (y : Int)] w8 fun e w' => e = .returned (.tuple #[]) ∧ MemAt w' mg mh ⟨(ms.set at_ y).set (at_ + n - 1) y, op + 1 + 1 + 1, 0, 2, ((at_ + n - 1 : Nat) : Int)⟩ ∧ Else mg mh w8 w') := by
                have := mstore (j := at_ + n - 1) (x := y) C8.out.c.mem (by have := C8.out.ml; have := HA.out; omega) (by omega)
                rw [show ((at_ + n - 1 : Nat) : Int) = (at_ : Int) + (n : Int) - 1 by omega] at this
                rw [show ((at_ + n - 1 : Nat) : Int) = (at_ : Int) + (n : Int) - 1 by omega]
                exact this
              clear m8 hx S1 C7
              go_wp2_with fail
              refine S2.out.mono ?_
              rintro e w9 ⟨rfl, m9, hx⟩
              have C9 := Lib.hid (C8.out.store m9 hx (by rw [List.length_set]; exact C8.out.ml) (C8.out.mw.set _ YW.out))
              clear m9 hx C8 S2 hcell2 hcell3
              go_wp2_with fail
              go_roundw
              case rel => exact ⟨i + 1, op + 1 + 1 + 1, c6, a6, _, _, _, _, _, by go_num, by omega, by go_num, by omega, C9.out⟩
              case measure => simp [intOf]; omega
            · have l5 : decide ((i : Int) < (L2 : Int)) = false := by simp; omega
              go_wp2_with fail
              go_roundw
              case rel => exact ⟨i + 1, op + 1, c6, a6, _, _, _, _, _, by go_num, by omega, by go_num, by omega, C7.out⟩
              case measure => simp [intOf]; omega
        · obtain rfl : i = n := by omega
          have M7 := Lib.hid CQ.out.c.mem
          go_wp2_with fail
          refine (ops_any mg mh _ _ M7.out).mono ?_
          rintro e w' ⟨rfl, rfl⟩
          clear M7
          have CW := Lib.hid fun w1 (h1 : CpSt w w1 g mg mh at_ i k i op v (.slice aw i cw) xs ms kd a) => cwords_any g mg mh _ _ _ v xs w1 h1.c h1.xw (by rw [h1.xl]; omega)
          rw [CQ.out.xl] at CW
          go_wp2_with fail
          refine (CW.out _ CQ.out).mono ?_
          rintro e w5 ⟨gb, rfl, hg5, hgl5, hb5⟩
          have C5 := Lib.hid (CQ.out.next hb5)
          have G5 := Lib.hid hg5
          have HNG : Hid ((∀ q ∈ copL g mg mh v, q ∉ [gb]) ∧ (∀ q, (Value.slice aw i cw).ownBlock = some q → q ∉ [gb]) ∧ ∀ q ∈ [gb], w.heap.size ≤ q) := by
            have hl := CQ.out.lt
            have hs := CQ.out.b.size
            refine ⟨fun q hq => ?_, fun q hq => ?_, fun q hq => ?_⟩
            · have := hl.1 q hq; simp; omega
            · have := hl.2 q hq; simp; omega
            · simp at hq; omega
          have XL := Lib.hid CQ.out.xl
          clear hg5 hb5 CQ
          go_wp2_with fail
          go_loopw [120] (fun u wq => ∃ (q : Nat) (ys : List Nat), q ≤ i ∧ u = .int .i64 q ∧ ys.length = i ∧ (∀ j, q ≤ j → ys.getD j 0 = xs.getD j 0) ∧ wq.heap[gb]? = some (.cells (wordsOf ys) 35 (0, 0)) ∧ CpSt w wq g mg mh at_ i k i op v (.slice aw i cw) xs ms kd a) (fun u _ => i - (intOf u).toNat)
          case atStart => exact ⟨0, xs, Nat.zero_le _, rfl, XL.out, fun _ _ => rfl, G5.out, C5.out⟩
          case round =>
            obtain ⟨q, ys, hq, rfl, hyl, hyx, hyg, hC⟩ := hrel
            have CP := Lib.hid hC
            have GP := Lib.hid hyg
            clear hC hyg C5 G5
            by_cases hl3 : q < i
            · obtain ⟨b2, off2, rfl, hcell2⟩ := CP.out.read.at hl3
              have cq := words_at' GP.out (j := q) (by omega)
              have zq := frozen_of (j := q) GP.out
              rw [hyx q (Nat.le_refl _)] at cq
              have HW := Lib.hid (fun x : Nat => words_set' (j := q) GP.out x)
              have XX := Lib.hid (fun x : Nat => CP.out.stay (Only.of_set (w := wr) (j := q) (by simp : gb ∈ [gb]) (.int .u64 (x : Int))) HNG.out.1 HNG.out.2.1 HNG.out.2.2)
              have HYX : Hid (∀ (x j : Nat), q + 1 ≤ j → (ys.set q x).getD j 0 = xs.getD j 0) := fun x j hj => by
                rw [← hyx j (by omega)]
                simp only [List.getD_eq_getElem?_getD]
                rw [List.getElem?_set_ne (by omega)]
              have HYL := Lib.hid hyl
              have l3 : (q : Int) < (i : Int) := by omega
              have hbg : ¬ b2 = gb := fun e => HNG.out.2.1 b2 rfl (by simp [e])
              generalize hxx : xs.getD q 0 = x at *
              have HV : Hid (IntKind.u64.wrap ((x : Int) + 1) = (((x + 1) % 18446744073709551616 : Nat) : Int)) := by
                show IntKind.u64.wrap ((x : Int) + 1) = _
                rw [IntKind.wrap_u64]; omega
              clear hyl hyx hxx
              go_wp2_with fail
              rw [HV.out]
              go_roundw
              case rel => exact ⟨q + 1, _, by omega, by go_num, by rw [List.length_set]; exact HYL.out, HYX.out _, HW.out _, XX.out _⟩
              case measure => simp [intOf]; omega
            · obtain rfl : q = i := by omega
              clear hyx GP
              go_wp2_with fail
              refine (CW.out _ CP.out).mono ?_
              rintro e w7 ⟨ab, rfl, hg7, hgl7, hb7⟩
              have C7 := Lib.hid (CP.out.next hb7)
              have G7 := Lib.hid hg7
              have B7 := Lib.hid C7.out.b
              have Z7 : Hid (CopV w7 g mg mh ((at_ + q : Nat) : Int) 0 v ⟨ms, op, 0, kd, a⟩ v xs) := by
                have := C7.out.c
                rw [show ((q - q : Nat) : Int) = 0 by omega] at this
                exact this
              clear hg7 hb7 CP CW
              by_cases hz : q = 0
              · subst hz
                go_wp2_with fail
                have cA := fun d os => Calls.regrown_of (calls_still (cstep_done g mg mh _ _ _ _ _ (grow (redrawn w7 d) os) (Z7.out.next (below_regrown w7 d os))))
                have cB := fun d os => Calls.regrown_of (calls_still (ops_any mg mh _ (grow (redrawn w7 d) os) (Z7.out.mem.next (below_regrown w7 d os))))
                have cC := fun d os => Calls.regrown_of (calls_still (faults_any mg mh _ (grow (redrawn w7 d) os) (Z7.out.mem.next (below_regrown w7 d os))))
                refine wp_region_quiet_below (by kernel_rfl) (by kernel_rfl) ?_
                repeat (go_big_quiet_step (first | exact cA _ _ | exact cB _ _ | exact cC _ _))
                refine wpQuiet_nil ?_
                intro _ hwq
                obtain ⟨⟨dq, osq⟩, hwq2⟩ := hwq
                subst hwq2
                have HQ := Lib.hid (below_regrown w7 dq osq)
                have B8 := Lib.hid (below_two B7.out HQ.out)
                generalize Sort.grow (redrawn w7 dq) osq = w8 at *
                clear HQ cA cB cC
                go_wp2_with fail
                go_ret
                exact ⟨rfl, B8.out⟩
              · obtain ⟨b2, off2, rfl, cb⟩ := C7.out.read.at (show 0 < q by omega)
                have ca := words_at' G7.out (j := 0) (by have := XL.out; omega)
                have nz : ((q : Int) == 0) = false := by simp; omega
                have lz : (0 : Int) < (q : Int) := by omega
                generalize xs.getD 0 0 = x at *
                rw [Nat.add_zero] at cb
                go_wp2_with fail
                have k0 := cell_regrown ca
                have k1 := cell_regrown cb
                have cA := fun d os => Calls.regrown_of (calls_still (cstep_done g mg mh _ _ _ _ _ (grow (redrawn w7 d) os) (Z7.out.next (below_regrown w7 d os))))
                have cB := fun d os => Calls.regrown_of (calls_still (ops_any mg mh _ (grow (redrawn w7 d) os) (Z7.out.mem.next (below_regrown w7 d os))))
                have cC := fun d os => Calls.regrown_of (calls_still (faults_any mg mh _ (grow (redrawn w7 d) os) (Z7.out.mem.next (below_regrown w7 d os))))
                refine wp_region_quiet_below (by kernel_rfl) (by kernel_rfl) ?_
                repeat (go_big_quiet_step (first | exact cA _ _ | exact cB _ _ | exact cC _ _))
                refine wpQuiet_nil ?_
                intro _ hwq
                obtain ⟨⟨dq, osq⟩, hwq2⟩ := hwq
                subst hwq2
                have HQ := Lib.hid (below_regrown w7 dq osq)
                have B8 := Lib.hid (below_two B7.out HQ.out)
                generalize Sort.grow (redrawn w7 dq) osq = w8 at *
                clear HQ k0 k1 cA cB cC
                go_wp2_with fail
                go_ret
                exact ⟨rfl, B8.out⟩

set_option maxRecDepth 20000 in
set_option maxHeartbeats 1000000 in
theorem copies_many (o0 o1 L cap L2 cap2 : Nat) (ad ad2 : Option Addr) (w : World) (hL : ¬ L ≤ 200) (hL1 : L < 9223372036854775808) :
    Calls Try.prog 4 #[.slice ad L cap, .agg #[.int .u8 o0, .int .u8 o1], .slice ad2 L2 cap2] w fun e w' => e = .returned (.bool true) ∧ Below w.heap.size w w' := by
  have l1 : (200 : Int) < (L : Int) := by omega
  have B0 := Lib.hid (box1 w (.cells #[.int .u8 o0, .int .u8 o1] 32))
  go_enter Try.func4, Try.ntmps4
  go_wp2_with fail
  generalize w.alloc (.cells #[.int .u8 o0, .int .u8 o1] 32) = wa at *
  refine (speaks8 _).mono ?_
  rintro e w1 ⟨rfl, hb⟩
  have HB := Lib.hid (below_two B0.out hb)
  clear hb
  go_wp2_with fail
  go_ret
  exact ⟨rfl, HB.out⟩
set_option maxRecDepth 20000 in
set_option maxHeartbeats 1000000 in
theorem copies_many2 (o0 o1 L cap L2 cap2 : Nat) (ad ad2 : Option Addr) (w : World) (hL : L ≤ 200) (hL2 : ¬ L2 ≤ 200) (hL3 : L2 < 9223372036854775808) :
    Calls Try.prog 4 #[.slice ad L cap, .agg #[.int .u8 o0, .int .u8 o1], .slice ad2 L2 cap2] w fun e w' => e = .returned (.bool true) ∧ Below w.heap.size w w' := by
  have l1 : (L : Int) ≤ 200 := by omega
  have l2 : (200 : Int) < (L2 : Int) := by omega
  have B0 := Lib.hid (box1 w (.cells #[.int .u8 o0, .int .u8 o1] 32))
  go_enter Try.func4, Try.ntmps4
  go_wp2_with fail
  generalize w.alloc (.cells #[.int .u8 o0, .int .u8 o1] 32) = wa at *
  refine (speaks8 _).mono ?_
  rintro e w1 ⟨rfl, hb⟩
  have HB := Lib.hid (below_two B0.out hb)
  clear hb
  go_wp2_with fail
  go_ret
  exact ⟨rfl, HB.out⟩
theorem copies_walk (o0 o1 : Nat) (a : Option Addr) (len cap : Nat) (zs : List Int) (a2 : Option Addr) (len2 cap2 : Nat) (zs2 : List Int) (w : World) (h0 : o0 < 256) (h1 : o1 < 256) (hz : IsRow .u64 w a len cap zs) (hz2 : IsRow .u64 w a2 len2 cap2 zs2) :
    Calls Try.prog 4 #[.slice a len cap, .agg #[.int .u8 o0, .int .u8 o1], .slice a2 len2 cap2] w fun e w' => e = .returned (.bool true) ∧ Below w.heap.size w w' := by
  obtain ⟨f, hf⟩ := hz.row
  obtain ⟨f2, hf2⟩ := hz2.row
  have hl := hz.len
  have hl2 := hz2.len
  unfold maxLen at hl hl2
  by_cases h3 : len ≤ 200
  · by_cases h4 : len2 ≤ 200
    · exact copies_few o0 o1 len cap len2 cap2 a a2 f f2 w h0 h1 h3 h4 hf hf2
    · exact copies_many2 o0 o1 len cap len2 cap2 a a2 w h3 h4 (by omega)
  · exact copies_many o0 o1 len cap len2 cap2 a a2 w h3 (by omega)

end Go.Proofs.Ytlpaijobcopbnaa
