/-
  Two records that are laid and copied side by side; the statement's own copy of a list (a closure).
-/
import Derived.Test.YtlpaijobcopbnaaSlot6
namespace Go.Proofs.Ytlpaijobcopbnaa
open Go.RowKit Go.Sort

/-- The words of a list, and noughts behind them. -/
def padF (f : Nat → Nat) (L j : Nat) : Nat := if j < L then f j else 0
theorem pad_splice (f : Nat → Nat) (L n : Nat) : splice (wordsOf (List.replicate n 0)).toList 0 (wordsOf (listOf f (min L n))).toList = (wordsOf (listOf (padF f L) n)).toList := by
  apply List.ext_getElem?
  intro i
  simp only [splice, List.take_zero, List.nil_append, Nat.zero_add, wordsOf, listOf, List.map_map, List.map_replicate]
  by_cases h1 : i < min L n
  · rw [List.getElem?_append_left (by simp; omega)]
    have h2 : i < L := by omega
    have h3 : i < n := by omega
    rw [List.getElem?_map, List.getElem?_map, List.getElem?_range h1, List.getElem?_range h3]
    simp [padF, h2]
  · rw [List.getElem?_append_right (by simp; omega)]
    simp only [List.length_map, List.length_range, List.getElem?_drop]
    by_cases h2 : i < n
    · have h3 : ¬ i < L := by omega
      have h4 : min L n + (i - min L n) < n := by omega
      rw [List.getElem?_map, List.getElem?_range h2]
      simp [h3, padF, h4]
    · rw [List.getElem?_eq_none (by simp; omega), List.getElem?_eq_none (by simp; omega)]
theorem row_less {w : World} {ao : Option Addr} {L m : Nat} {f : Nat → Nat} (h : Row64 w ao L f) (hm : m ≤ L) : Row64 w ao m f :=
  ⟨h.1, fun h0 => by
    obtain ⟨b, off, e, hl, hc⟩ := h.2 (by omega)
    exact ⟨b, off, e, hl, fun j hj => hc j (by omega)⟩⟩
theorem rec_any (ao : Option Addr) (L c n nb : Nat) (f : Nat → Nat) (w : World) (h : Row64 w ao L f) (hN : n ≤ 1000) (hc : w.cell? ⟨nb, 0, none⟩ = some (.int .i64 n)) :
    Calls Try.prog 29 #[.slice ao L c, .pointer (some ⟨nb, 0, none⟩)] w fun e w' => ∃ b, e = .returned (.slice (some ⟨b, 0, none⟩) n n) ∧ w'.heap[b]? = some (.cells (wordsOf (listOf (padF f L) n)) 35 (0, 0)) ∧ w.heap.size ≤ b ∧ Below w.heap.size w w' := by
  obtain ⟨i0, hi, hz0, hz1, hz2⟩ := info_parts info64
  have hL' : Hid ((wordsOf (listOf f (min L n))).toList.length = min L n) := by show _ = _; rw [words_len, listOf_len]
  have PS := Lib.hid (pad_splice f L n)
  go_enter Try.func29, Try.ntmps29
  go_wp2_with (at_make; refine wpList_make_full _ rfl _ _ 31 rfl w.heap.size 35 i0 (.int .u64 0) 1 Try.underlying31 hi hz0 hz1 .i64 .i64 _ _ n rfl rfl (by omega) (by omega) (by rw [hz2]; omega) (by unfold maxLen; omega) (Nat.le_refl _) ?_)
  intro w1 ho hg
  have hb1 := grown_below hg rfl
  have hz : w1.heap[w.heap.size]? = some (.cells (wordsOf (List.replicate n 0)).toList.toArray 35 (0, 0)) := by rw [owned_all ho, made_words']
  have HB := Lib.hid hb1
  have HM := Lib.hid (row_less (h.next hb1) (Nat.min_le_left L n))
  have HZ := Lib.hid hz
  clear ho hg hz hb1 hc
  go_wp2_with (with_reducible refine wpList_copy_splice rfl (.tmp 7) (.tmp 8) 31 31 rfl 35 Try.underlying31 size64 _ _ _ _ _ _ rfl rfl w.heap.size 0 _ 35 HZ.out (wordsOf (listOf f (min L n))).toList (by exact hL'.out) (fun h0 => ⟨rfl, listOf_src HM.out (by rw [hL'.out] at h0; exact h0)⟩) (by rw [hL'.out, words_len, List.length_replicate]; omega) (words_one _) w.heap.size w HB.out (Nat.le_refl _) ?_)
  intro w2 HG2 hB2
  have HW : Hid (w2.heap[w.heap.size]? = some (.cells (wordsOf (listOf (padF f L) n)) 35 (0, 0))) := by
    show w2.heap[w.heap.size]? = _
    rw [HG2.out, PS.out]
  have HB2 := Lib.hid hB2
  clear hB2 HG2
  go_wp2
  go_ret
  exact ⟨w.heap.size, rfl, HW.out, Nat.le_refl _, HB2.out⟩

theorem LayV.share {l : List Nat} {u u' : World} {g mg mh b j : Nat} {A : Int} {s s' : MSt} {ws : List Nat} (h : LayV u g mg mh b j A s ws) (m : MemAt u' mg mh s') (x : Only l u u') (hg : g ∉ l) (hb : b ∉ l) : LayV u' g mg mh b j A s' ws :=
  ⟨x.at h.head hg, x.at h.body hb, m, h.gm, h.gh, h.bg, h.bm, h.bh, h.le⟩
theorem CopV.share {l : List Nat} {u u' : World} {g mg mh : Nat} {A L : Int} {vc : Value} {s s' : MSt} {v : Value} {ws : List Nat} (h : CopV u g mg mh A L vc s v ws) (m : MemAt u' mg mh s') (x : Only l u u') (hg : g ∉ l) (hv : ∀ k, v.ownBlock = some k → k ∉ l) : CopV u' g mg mh A L vc s' v ws :=
  ⟨x.at h.head hg, m, h.row.stay x hv, h.gm, h.gh, h.vg, h.vm, h.vh⟩

/-- Two layers over one memory; how far each is. -/
structure Lays (w0 wr : World) (mg mh gp bp A0 i gq bq A1 j n z : Nat) (ms : List Nat) (op : Nat) (kd a : Int) (fa fb : Nat → Nat) : Prop where
  p : LayV wr gp mg mh bp i ((A0 + i : Nat) : Int) ⟨ms, op, 0, kd, a⟩ (listOf fa n)
  q : LayV wr gq mg mh bq j ((A1 + j : Nat) : Int) ⟨ms, op, 0, kd, a⟩ (listOf fb n)
  ml : ms.length = z
  aw : AllW ms
  pa : ∀ t, t < i → ms.getD (A0 + t) 0 = fa t
  pb : ∀ t, t < j → ms.getD (A1 + t) 0 = fb t
  np : gp ∉ [gq, mg, mh] ∧ bp ∉ [gq, mg, mh]
  nq : gq ∉ [gp, mg, mh] ∧ bq ∉ [gp, mg, mh]
  lo : ∀ k ∈ [gp, gq, mg, mh], w0.heap.size ≤ k
  b : Below w0.heap.size w0 wr
theorem Lays.swap {w0 wr : World} {mg mh gp bp A0 i gq bq A1 j n z : Nat} {ms : List Nat} {op : Nat} {kd a : Int} {fa fb : Nat → Nat} (h : Lays w0 wr mg mh gp bp A0 i gq bq A1 j n z ms op kd a fa fb) : Lays w0 wr mg mh gq bq A1 j gp bp A0 i n z ms op kd a fb fa :=
  ⟨h.q, h.p, h.ml, h.aw, h.pb, h.pa, h.nq, h.np, fun k hk => h.lo k (by simp at hk ⊢; omega), h.b⟩
theorem set_get {ms : List Nat} {i j x : Nat} (hi : i < ms.length) : (ms.set i x).getD j 0 = if j = i then x else ms.getD j 0 := by
  simp only [List.getD_eq_getElem?_getD, List.getElem?_set]
  by_cases e : j = i
  · subst e; simp [hi]
  · rw [if_neg (fun h => e h.symm), if_neg e]
theorem lays_p {w0 w : World} {mg mh gp bp A0 i gq bq A1 j n z : Nat} {ms : List Nat} {op : Nat} {kd a : Int} {fa fb : Nat → Nat} (h : Hid (Lays w0 w mg mh gp bp A0 i gq bq A1 j n z ms op kd a fa fb)) (hi : i < n) (hn : n ≤ 1000) (hz : A0 + n ≤ z) (hz2 : z ≤ 10000) (hf : ∀ t, fa t < 18446744073709551616) (hd : A0 + n ≤ A1 ∨ A1 + n ≤ A0) (hj : j ≤ n) (ho : op ≤ 10000) :
    Calls Try.prog 27 #[.pointer (some ⟨gp, 0, none⟩)] w fun e w' => ∃ (bb : Bool) (ms' : List Nat) (kd' a' : Int), e = .returned (.bool bb) ∧ Lays w0 w' mg mh gp bp A0 (i + 1) gq bq A1 j n z ms' (op + 1) kd' a' fa fb := by
  have hl : A0 + i < ms.length := by rw [h.out.ml]; omega
  refine (lstep_more gp mg mh bp i _ _ _ w h.out.p (by rw [listOf_len]; exact hi) (by rw [listOf_len]; omega) (by omega) (by omega) (show op < _ by omega) (show (0 : Nat) < 4611686018427387904 by decide)).mono ?_
  rintro e w' ⟨rfl, h1, h2⟩
  rw [begun_at 2 hl, put_at hl, listOf_at fa n i hi, show ((A0 + i : Nat) : Int) + 1 = ((A0 + (i + 1) : Nat) : Int) by omega] at h1
  refine ⟨_, _, _, _, rfl, h1, h.out.q.share h1.mem h2 h.out.nq.1 h.out.nq.2, by rw [List.length_set]; exact h.out.ml, h.out.aw.set _ (hf i), fun t ht => ?_, fun t ht => ?_, h.out.np, h.out.nq, h.out.lo, below_only h.out.b h2 (fun k hk => h.out.lo k (by simp at hk ⊢; omega))⟩
  · rw [set_get hl]
    by_cases e : t = i
    · rw [if_pos (by omega), e]
    · rw [if_neg (by omega)]; exact h.out.pa t (by omega)
  · rw [set_get hl, if_neg (by omega)]; exact h.out.pb t ht

/-- Two copiers over one memory; how far each is. -/
structure Cops (w0 wr : World) (mg mh gc A0 i gd A1 j n z : Nat) (ms : List Nat) (op : Nat) (kd a : Int) (fa fb : Nat → Nat) (v v2 : Value) (xs ys : List Nat) : Prop where
  c : CopV wr gc mg mh ((A0 + i : Nat) : Int) ((n - i : Nat) : Int) v ⟨ms, op, 0, kd, a⟩ v xs
  d : CopV wr gd mg mh ((A1 + j : Nat) : Int) ((n - j : Nat) : Int) v2 ⟨ms, op, 0, kd, a⟩ v2 ys
  xl : xs.length = i
  yl : ys.length = j
  xe : ∀ t, t < i → xs.getD t 0 = fa t
  ye : ∀ t, t < j → ys.getD t 0 = fb t
  xw : AllW xs
  yw : AllW ys
  ml : ms.length = z
  pa : ∀ t, t < n → ms.getD (A0 + t) 0 = fa t
  pb : ∀ t, t < n → ms.getD (A1 + t) 0 = fb t
  nc : gc ∉ copL gd mg mh v2 ∧ ∀ k, v.ownBlock = some k → k ∉ copL gd mg mh v2
  nd : gd ∉ copL gc mg mh v ∧ ∀ k, v2.ownBlock = some k → k ∉ copL gc mg mh v
  lo : ∀ k, k ∈ copL gc mg mh v ∨ k ∈ copL gd mg mh v2 → w0.heap.size ≤ k
  b : Below w0.heap.size w0 wr
theorem Cops.swap {w0 wr : World} {mg mh gc A0 i gd A1 j n z : Nat} {ms : List Nat} {op : Nat} {kd a : Int} {fa fb : Nat → Nat} {v v2 : Value} {xs ys : List Nat} (h : Cops w0 wr mg mh gc A0 i gd A1 j n z ms op kd a fa fb v v2 xs ys) : Cops w0 wr mg mh gd A1 j gc A0 i n z ms op kd a fb fa v2 v ys xs :=
  ⟨h.d, h.c, h.yl, h.xl, h.ye, h.xe, h.yw, h.xw, h.ml, h.pb, h.pa, h.nd, h.nc, fun k hk => h.lo k hk.symm, h.b⟩
theorem Cops.next {w0 wr w' : World} {mg mh gc A0 i gd A1 j n z : Nat} {ms : List Nat} {op : Nat} {kd a : Int} {fa fb : Nat → Nat} {v v2 : Value} {xs ys : List Nat} (h : Cops w0 wr mg mh gc A0 i gd A1 j n z ms op kd a fa fb v v2 xs ys) (hb : Below wr.heap.size wr w') : Cops w0 w' mg mh gc A0 i gd A1 j n z ms op kd a fa fb v v2 xs ys :=
  { h with c := h.c.next hb, d := h.d.next hb, b := below_two h.b hb }
theorem snoc_get {xs : List Nat} {i t x : Nat} (hl : xs.length = i) : (xs ++ [x]).getD t 0 = if t = i then x else xs.getD t 0 := by
  simp only [List.getD_eq_getElem?_getD]
  by_cases h : t < i
  · rw [List.getElem?_append_left (by omega), if_neg (by omega)]
  · rw [List.getElem?_append_right (by omega)]
    by_cases e : t = i
    · rw [if_pos e, e, hl]; simp
    · rw [if_neg e, List.getElem?_eq_none (by simp; omega), List.getElem?_eq_none (by omega)]
theorem cops_c {w0 w : World} {mg mh gc A0 i gd A1 j n z : Nat} {ms : List Nat} {op : Nat} {kd a : Int} {fa fb : Nat → Nat} {v v2 : Value} {xs ys : List Nat} (h : Hid (Cops w0 w mg mh gc A0 i gd A1 j n z ms op kd a fa fb v v2 xs ys)) (hi : i < n) (hn : n ≤ 1000) (hz : A0 + n ≤ z) (hz2 : z ≤ 10000) (hf : ∀ t, fa t < 18446744073709551616) (ho : op ≤ 10000) :
    Calls Try.prog 23 #[.pointer (some ⟨gc, 0, none⟩)] w fun e w' => ∃ (bb : Bool) (kd' a' : Int) (v' : Value) (xs' : List Nat), e = .returned (.bool bb) ∧ Cops w0 w' mg mh gc A0 (i + 1) gd A1 j n z ms (op + 1) kd' a' fa fb v' v2 xs' ys := by
  have hl : A0 + i < ms.length := by rw [h.out.ml]; omega
  refine (cops_step h.out.c hi hn (by omega) h.out.xl (show op < 100000 by omega) rfl).mono ?_
  rintro e w' ⟨rfl, v', h1, h2, h3⟩
  rw [begun_at 1 hl, rd_at hl, h.out.pa i hi] at h1
  have hgd := h.out.d.lt
  have key : ∀ k, k < w.heap.size → k ∉ copL gc mg mh v → k ∉ copL gc mg mh v' := fun k hk hn hm => by
    rcases copL_mem.1 hm with e | e | e | e
    · exact hn (copL_mem.2 (.inl e))
    · exact hn (copL_mem.2 (.inr (.inl e)))
    · exact hn (copL_mem.2 (.inr (.inr (.inl e))))
    · rcases h2 with h4 | ⟨k', h4, h5⟩
      · exact hn (copL_mem.2 (.inr (.inr (.inr (by rw [← h4]; exact e)))))
      · rw [h4] at e; cases e; omega
  refine ⟨_, _, _, v', _, rfl, h1, h.out.d.share h1.mem h3 h.out.nd.1 h.out.nd.2, by rw [List.length_append, h.out.xl]; rfl, h.out.yl, fun t ht => ?_, h.out.ye, h.out.xw.snoc (hf i), h.out.yw, h.out.ml, h.out.pa, h.out.pb, ⟨h.out.nc.1, fun k hk => ?_⟩, ⟨key _ hgd h.out.nd.1, fun k hk => key k (h.out.d.row.lt hk) (h.out.nd.2 k hk)⟩, fun k hk => ?_, below_only h.out.b h3 (fun k hk => h.out.lo k (.inl hk))⟩
  · rw [snoc_get h.out.xl]
    by_cases e : t = i
    · rw [if_pos e, e]
    · rw [if_neg e]; exact h.out.xe t (by omega)
  · rcases h2 with h4 | ⟨k', h4, h5⟩
    · exact h.out.nc.2 k (by rw [← h4]; exact hk)
    · rw [h4] at hk
      cases hk
      intro hm
      have hmm := h.out.d.mem.lt
      rcases copL_mem.1 hm with e | e | e | e
      · omega
      · omega
      · omega
      · have := h.out.d.row.lt e; omega
  · rcases hk with hk | hk
    · rcases copL_mem.1 hk with e | e | e | e
      · exact h.out.lo k (.inl (copL_mem.2 (.inl e)))
      · exact h.out.lo k (.inl (copL_mem.2 (.inr (.inl e))))
      · exact h.out.lo k (.inl (copL_mem.2 (.inr (.inr (.inl e)))))
      · rcases h2 with h4 | ⟨k', h4, h5⟩
        · exact h.out.lo k (.inl (copL_mem.2 (.inr (.inr (.inr (by rw [← h4]; exact e))))))
        · rw [h4] at e; cases e; exact Nat.le_trans h.out.b.size h5
    · exact h.out.lo k (.inr hk)

end Go.Proofs.Ytlpaijobcopbnaa
