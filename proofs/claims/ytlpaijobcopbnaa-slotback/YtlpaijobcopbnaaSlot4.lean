/-
  Contracts of a Copier: Copy, Step, Words.
-/
import Derived.Test.YtlpaijobcopbnaaSlot3
import Derived.Deep.RegionHeld3
import Derived.Deep.CutRange
import Derived.Deep.DeepCutAuto
namespace Go.Proofs.Ytlpaijobcopbnaa
open Go.RowKit Go.Sort

theorem step_append_run {P : Program} {ops : Array Oper} {o : Oper} {a : Act} {w : World} {K : Act → World → Prop} {Q : Exit → Act → World → Prop} {E : Prop}
    (hg : o.guard = none) (d x : Operand) (dT sT : TypeId) (hop : o.op = Op.call { callee := Callee.builtin Builtin.append, args := #[d, x], argTypes := #[dT, sT] })
    (v u : Value) (hd : a.eval d = v) (hx : a.eval x = u) {v' : Value} {w' : World} (hr : (Builtin.append_ #[dT, sT] o.type #[v, u]).run P w = .ok v' w') (hK : K (a.put o.dst v') w') :
    if Region.wanted o (yielded ops a.tmps) = true then Oper.wp P o a w K Q else E := by
  have hw : Region.wanted o (yielded ops a.tmps) = true := by simp [Region.wanted, hg]
  rw [if_pos hw]
  unfold Oper.wp
  simp [execOp, hop, resolve, invoke, builtin, hd, hx, hr, Result.andThen]
  exact hK

theorem retb_eq {a b : Bool} (h : a = b) : Ending.returned (.bool a) = .returned (.bool b) := by rw [h]
/-- A copier in block g, over the memory in mg and mh; vc: what lies in its field, v: a row that is its own. -/
structure CopV (u : World) (g mg mh : Nat) (A L : Int) (vc : Value) (s : MSt) (v : Value) (ws : List Nat) : Prop where
  head : u.heap[g]? = some (.cells #[.pointer (some ⟨mg, 0, none⟩), .int .i64 A, .int .i64 L, vc] 55 (0, 0))
  mem : MemAt u mg mh s
  row : WRw u v ws
  gm : g ≠ mg
  gh : g ≠ mh
  vg : v.ownBlock ≠ some g
  vm : v.ownBlock ≠ some mg
  vh : v.ownBlock ≠ some mh
/-- What a copier's step turns. -/
def copL (g mg mh : Nat) (v : Value) : List Nat := [g, mg, mh] ++ v.ownBlock.toList
theorem copL_mem {g mg mh k : Nat} {v : Value} : k ∈ copL g mg mh v ↔ k = g ∨ k = mg ∨ k = mh ∨ v.ownBlock = some k := by
  unfold copL; cases h : v.ownBlock <;> simp [eq_comm]
theorem CopV.lt {u : World} {g mg mh : Nat} {A L : Int} {vc : Value} {s : MSt} {v : Value} {ws : List Nat} (h : CopV u g mg mh A L vc s v ws) : g < u.heap.size := heap_lt h.head
theorem CopV.c0 {u : World} {g mg mh : Nat} {A L : Int} {vc : Value} {s : MSt} {v : Value} {ws : List Nat} (h : CopV u g mg mh A L vc s v ws) : u.cell? ⟨g, 0, none⟩ = some (.pointer (some ⟨mg, 0, none⟩)) := cell_of h.head
theorem CopV.c1 {u : World} {g mg mh : Nat} {A L : Int} {vc : Value} {s : MSt} {v : Value} {ws : List Nat} (h : CopV u g mg mh A L vc s v ws) : u.cell? ⟨g, 1, none⟩ = some (.int .i64 A) := cell_of h.head
theorem CopV.c2 {u : World} {g mg mh : Nat} {A L : Int} {vc : Value} {s : MSt} {v : Value} {ws : List Nat} (h : CopV u g mg mh A L vc s v ws) : u.cell? ⟨g, 2, none⟩ = some (.int .i64 L) := cell_of h.head
theorem CopV.c3 {u : World} {g mg mh : Nat} {A L : Int} {vc : Value} {s : MSt} {v : Value} {ws : List Nat} (h : CopV u g mg mh A L vc s v ws) : u.cell? ⟨g, 3, none⟩ = some vc := cell_of h.head
theorem CopV.fz {u : World} {g mg mh : Nat} {A L : Int} {vc : Value} {s : MSt} {v : Value} {ws : List Nat} (h : CopV u g mg mh A L vc s v ws) (j : Nat) : u.frozen? ⟨g, j, none⟩ = false := frozen_of h.head
/-- Where other blocks turn it stays what it is. -/
theorem CopV.stay {l : List Nat} {u u' : World} {g mg mh : Nat} {A L : Int} {vc : Value} {s : MSt} {v : Value} {ws : List Nat} (h : CopV u g mg mh A L vc s v ws) (x : Only l u u') (hn : ∀ k ∈ copL g mg mh v, k ∉ l) : CopV u' g mg mh A L vc s v ws :=
  ⟨x.at h.head (hn g (copL_mem.2 (.inl rfl))), h.mem.stay x (hn mg (copL_mem.2 (.inr (.inl rfl)))) (hn mh (copL_mem.2 (.inr (.inr (.inl rfl))))), h.row.stay x (fun k hk => hn k (copL_mem.2 (.inr (.inr (.inr hk))))), h.gm, h.gh, h.vg, h.vm, h.vh⟩
theorem CopV.next {u u' : World} {g mg mh : Nat} {A L : Int} {vc : Value} {s : MSt} {v : Value} {ws : List Nat} (h : CopV u g mg mh A L vc s v ws) (x : Below u.heap.size u u') : CopV u' g mg mh A L vc s v ws :=
  h.stay (l := []) (Only.of_below x) (fun _ _ => by simp)
/-- An access to the memory. -/
theorem CopV.mem' {u u' : World} {g mg mh : Nat} {A L : Int} {vc : Value} {s s' : MSt} {v : Value} {ws : List Nat} (h : CopV u g mg mh A L vc s v ws) (m : MemAt u' mg mh s') (x : Else mg mh u u') : CopV u' g mg mh A L vc s' v ws :=
  ⟨(x.block g h.lt h.gm h.gh).trans h.head, m, h.row.stay (l := [mg, mh]) (Only.of_else x (by simp) (by simp)) (fun k hk hm => by
    have hm' : k = mg ∨ k = mh := by simpa using hm
    rcases hm' with rfl | rfl
    · exact h.vm hk
    · exact h.vh hk), h.gm, h.gh, h.vg, h.vm, h.vh⟩
/-- The row has grown. -/
theorem CopV.grow {u u' : World} {g mg mh : Nat} {A L : Int} {vc : Value} {s : MSt} {v v' : Value} {ws ws' : List Nat} (h : CopV u g mg mh A L vc s v ws) (hr : WRw u' v' ws') (x : u.grownBy u' v.ownBlock) (ho : v'.ownBlock = v.ownBlock ∨ v'.ownBlock = some u.heap.size) : CopV u' g mg mh A L vc s v' ws' := by
  have hl := h.lt
  have hm := h.mem.lt
  have X : Only (v.ownBlock.toList) u u' := Only.of_grown x (fun k hk => by simp [hk])
  have hv : ∀ k, v.ownBlock ≠ some k → k < u.heap.size → v'.ownBlock ≠ some k := fun k h1 h2 => by
    rcases ho with e | e
    · rw [e]; exact h1
    · rw [e]; simp; omega
  have hn : ∀ k, v.ownBlock ≠ some k → k ∉ v.ownBlock.toList := fun k h1 h2 => by simp at h2; exact h1 h2
  exact ⟨X.at h.head (hn g h.vg), h.mem.stay X (hn _ h.vm) (hn _ h.vh), hr, h.gm, h.gh, hv _ h.vg hl, hv _ h.vm hm.1, hv _ h.vh hm.2⟩
theorem CopV.put3 {u : World} {g mg mh : Nat} {A L : Int} {vc : Value} {s : MSt} {v : Value} {ws : List Nat} (h : CopV u g mg mh A L vc s v ws) : CopV (u.setCell ⟨g, 3, none⟩ v) g mg mh A L v s v ws := by
  have X : Only [g] u (u.setCell ⟨g, 3, none⟩ v) := Only.of_set (by simp) v
  refine ⟨?_, h.mem.stay X (by simpa using h.gm.symm) (by simpa using h.gh.symm), h.row.stay X (fun k hk hm => h.vg (by rw [hk]; simp at hm; rw [hm])), h.gm, h.gh, h.vg, h.vm, h.vh⟩
  rw [set_of h.head]; rfl
theorem CopV.put1 {u : World} {g mg mh : Nat} {A L : Int} {vc : Value} {s : MSt} {v : Value} {ws : List Nat} (h : CopV u g mg mh A L vc s v ws) (A' : Int) : CopV (u.setCell ⟨g, 1, none⟩ (.int .i64 A')) g mg mh A' L vc s v ws := by
  have X : Only [g] u (u.setCell ⟨g, 1, none⟩ (.int .i64 A')) := Only.of_set (by simp) _
  refine ⟨?_, h.mem.stay X (by simpa using h.gm.symm) (by simpa using h.gh.symm), h.row.stay X (fun k hk hm => h.vg (by rw [hk]; simp at hm; rw [hm])), h.gm, h.gh, h.vg, h.vm, h.vh⟩
  rw [set_of h.head]; rfl
theorem CopV.put2 {u : World} {g mg mh : Nat} {A L : Int} {vc : Value} {s : MSt} {v : Value} {ws : List Nat} (h : CopV u g mg mh A L vc s v ws) (L' : Int) : CopV (u.setCell ⟨g, 2, none⟩ (.int .i64 L')) g mg mh A L' vc s v ws := by
  have X : Only [g] u (u.setCell ⟨g, 2, none⟩ (.int .i64 L')) := Only.of_set (by simp) _
  refine ⟨?_, h.mem.stay X (by simpa using h.gm.symm) (by simpa using h.gh.symm), h.row.stay X (fun k hk hm => h.vg (by rw [hk]; simp at hm; rw [hm])), h.gm, h.gh, h.vg, h.vm, h.vh⟩
  rw [set_of h.head]; rfl

/-- The row is the one that was, or a new one. -/
def OwnSt (n : Nat) (v v' : Value) : Prop := v'.ownBlock = v.ownBlock ∨ ∃ k, v'.ownBlock = some k ∧ n ≤ k

theorem copy_any (mg mh : Nat) (s : MSt) (A : Int) (n : Nat) (w : World) (m : MemAt w mg mh s) (hn : n < 4611686018427387904) :
    Calls Try.prog 20 #[.pointer (some ⟨mg, 0, none⟩), .int .i64 A, .int .i64 n] w fun e w' => e = .returned (.pointer (some ⟨w.heap.size, 0, none⟩)) ∧ CopV w' w.heap.size mg mh A n (.slice none 0 0) s (.slice none 0 0) [] ∧ Below w.heap.size w w' := by
  have hl := m.lt
  have hx : max (n : Int) 0 = n := by omega
  have M := Lib.hid m
  clear m
  go_enter Try.func20, Try.ntmps20
  go_wp2
  go_ret
  exact ⟨rfl, ⟨heap_new _ _, M.out.next (box1 _ _), WRw.nil _, by omega, by omega, by simp [Value.ownBlock], by simp [Value.ownBlock], by simp [Value.ownBlock]⟩, box1 _ _⟩

theorem cstep_done (g mg mh : Nat) (A : Int) (vc : Value) (s : MSt) (v : Value) (ws : List Nat) (w : World) (h : CopV w g mg mh A 0 vc s v ws) :
    Calls Try.prog 23 #[.pointer (some ⟨g, 0, none⟩)] w fun e w' => e = .returned (.bool true) ∧ w = w' := by
  have c2 := h.c2
  clear h
  go_enter Try.func23, Try.ntmps23
  go_wp2
  go_ret
  exact ⟨rfl, rfl⟩

set_option maxRecDepth 20000 in
set_option maxHeartbeats 4000000 in
theorem cstep_more (g mg mh : Nat) (A : Int) (k : Nat) (s : MSt) (v : Value) (ws : List Nat) (w : World) (h : Hid (CopV w g mg mh A ((k + 1 : Nat) : Int) v s v ws)) (hA : -4611686018427387904 ≤ A) (hA2 : A < 4611686018427387904) (hk : k < 4611686018427387904) (few : ws.length ≤ 1048576) (ho : s.ops < 4611686018427387904) (hf : s.faults < 4611686018427387904) :
    Calls Try.prog 23 #[.pointer (some ⟨g, 0, none⟩)] w fun e w' => e = .returned (.bool (decide (k = 0))) ∧ ∃ v', CopV w' g mg mh (A + 1) k v' (s.begun 1 A) v' (ws ++ [s.rd A]) ∧ OwnSt w.heap.size v v' ∧ Only (copL g mg mh v) w w' := by
  have LD := Lib.hid fun w1 m1 => load_any mg mh s A w1 m1 ho hf
  have ML : Hid (mg ∈ copL g mg mh v ∧ mh ∈ copL g mg mh v) := ⟨copL_mem.2 (.inr (.inl rfl)), copL_mem.2 (.inr (.inr (.inl rfl)))⟩
  have GL : Hid (g ∈ copL g mg mh v) := copL_mem.2 (.inl rfl)
  obtain ⟨a, c, hfv⟩ := h.out.row.form
  have c2 := h.out.c2
  have HL : Hid (((k + 1 : Nat) : Int) = (k : Int) + 1) := by show _ = _; omega
  rw [HL.out] at c2 h
  have n0 : ((k : Int) + 1 == 0) = false := by simp; omega
  clear ho hf
  generalize s.rd A = X at *
  generalize s.begun 1 A = s' at *
  generalize hw0 : w = w0 at *
  subst hfv
  go_enter Try.func23, Try.ntmps23
  go_wp2_with fail
  clear c2
  go_cut [0] (fun v0 wx => v0 = .pointer (some ⟨g, 0, none⟩) ∧ ∃ v', CopV wx g mg mh A ((k : Int) + 1) v' s' v' (ws ++ [X]) ∧ OwnSt w0.heap.size (.slice a ws.length c) v' ∧ Only (copL g mg mh (.slice a ws.length c)) w0 wx)
  case first =>
    refine wp_region_noPanic ?_
    refine wp_region_held_drew (S := fun w' => w'.cell? ⟨g, 0, none⟩ = some (.pointer (some ⟨mg, 0, none⟩)) ∧ w'.cell? ⟨g, 1, none⟩ = some (.int .i64 A)) (by kernel_rfl) ⟨h.out.c0, h.out.c1⟩ (fun hHeld => ?_)
    have C0 : Hid (CopV w0.drew g mg mh A ((k : Int) + 1) (.slice a ws.length c) s (.slice a ws.length c) ws) := h.out.next (Below.refl _ _).drew
    have O0 : Hid (Only (copL g mg mh (.slice a ws.length c)) w0 w0.drew) := Only.of_below (Below.refl _ _).drew
    generalize hv : Value.slice a ws.length c = v at *
    generalize w0.drew = x0 at *
    refine wpAnyH_take (i := 0) (v := .pointer (some ⟨g, 0, none⟩)) rfl (by kernel_rfl) (by kernel_rfl) (by kernel_rfl) (fun _ _ _ h => h) (Or.inl ⟨by rfl, fun w hSw => by go_simp⟩) (by assumption) ?_
    change wpAnyH _ _ _ _ _ _ _ (Act.put _ (some 12) _) _
    simp only [Act.put, List.setIfInBounds_toArray, List.set_cons_zero, List.set_cons_succ]
    refine wpAnyH_take (i := 1) (v := .pointer (some ⟨g, 0, none⟩)) rfl (by kernel_rfl) (by kernel_rfl) (by kernel_rfl) (fun _ _ _ h => h) (Or.inl ⟨by rfl, fun w hSw => by go_simp⟩) (by assumption) ?_
    change wpAnyH _ _ _ _ _ _ _ (Act.put _ (some 13) _) _
    simp only [Act.put, List.setIfInBounds_toArray, List.set_cons_zero, List.set_cons_succ]
    refine wpAnyH_take (i := 2) (v := .pointer (some ⟨g, 0, none⟩)) rfl (by kernel_rfl) (by kernel_rfl) (by kernel_rfl) (fun _ _ _ h => h) (Or.inl ⟨by rfl, fun w hSw => by go_simp⟩) (by assumption) ?_
    change wpAnyH _ _ _ _ _ _ _ (Act.put _ (some 14) _) _
    simp only [Act.put, List.setIfInBounds_toArray, List.set_cons_zero, List.set_cons_succ]
    refine wpAnyH_take (i := 3) (v := .pointer (some ⟨g, 3, none⟩)) rfl (by kernel_rfl) (by kernel_rfl) (by kernel_rfl) (fun _ _ _ h => h) (Or.inl ⟨by rfl, fun w hSw => by go_simp⟩) (by assumption) ?_
    change wpAnyH _ _ _ _ _ _ _ (Act.put _ (some 15) _) _
    simp only [Act.put, List.setIfInBounds_toArray, List.set_cons_zero, List.set_cons_succ]
    refine wpAnyH_take (i := 5) (v := .pointer (some ⟨g, 0, none⟩)) rfl (by kernel_rfl) (by kernel_rfl) (by kernel_rfl) (fun _ _ _ h => h) (Or.inl ⟨by rfl, fun w hSw => by go_simp⟩) (by assumption) ?_
    change wpAnyH _ _ _ _ _ _ _ (Act.put _ (some 17) _) _
    simp only [Act.put, List.setIfInBounds_toArray, List.set_cons_zero, List.set_cons_succ]
    refine wpAnyH_take (i := 6) (v := .pointer (some ⟨g, 0, none⟩)) rfl (by kernel_rfl) (by kernel_rfl) (by kernel_rfl) (fun _ _ _ h => h) (Or.inl ⟨by rfl, fun w hSw => by go_simp⟩) (by assumption) ?_
    change wpAnyH _ _ _ _ _ _ _ (Act.put _ (some 18) _) _
    simp only [Act.put, List.setIfInBounds_toArray, List.set_cons_zero, List.set_cons_succ]
    refine wpAnyH_take (i := 7) (v := .pointer (some ⟨g, 0, none⟩)) rfl (by kernel_rfl) (by kernel_rfl) (by kernel_rfl) (fun _ _ _ h => h) (Or.inl ⟨by rfl, fun w hSw => by go_simp⟩) (by assumption) ?_
    change wpAnyH _ _ _ _ _ _ _ (Act.put _ (some 19) _) _
    simp only [Act.put, List.setIfInBounds_toArray, List.set_cons_zero, List.set_cons_succ]
    refine wpAnyH_take (i := 8) (v := .pointer (some ⟨mg, 0, none⟩)) rfl (by kernel_rfl) (by kernel_rfl) (by kernel_rfl) (fun _ _ _ h => h) (Or.inl ⟨by rfl, fun w hSw => by obtain ⟨s0, s1⟩ := hSw; go_simp⟩) (by assumption) ?_
    change wpAnyH _ _ _ _ _ _ _ (Act.put _ (some 20) _) _
    simp only [Act.put, List.setIfInBounds_toArray, List.set_cons_zero, List.set_cons_succ]
    refine wpAnyH_take (i := 9) (v := .pointer (some ⟨g, 0, none⟩)) rfl (by kernel_rfl) (by kernel_rfl) (by kernel_rfl) (fun _ _ _ h => h) (Or.inl ⟨by rfl, fun w hSw => by go_simp⟩) (by assumption) ?_
    change wpAnyH _ _ _ _ _ _ _ (Act.put _ (some 21) _) _
    simp only [Act.put, List.setIfInBounds_toArray, List.set_cons_zero, List.set_cons_succ]
    refine wpAnyH_take (i := 10) (v := .pointer (some ⟨g, 0, none⟩)) rfl (by kernel_rfl) (by kernel_rfl) (by kernel_rfl) (fun _ _ _ h => h) (Or.inl ⟨by rfl, fun w hSw => by go_simp⟩) (by assumption) ?_
    change wpAnyH _ _ _ _ _ _ _ (Act.put _ (some 22) _) _
    simp only [Act.put, List.setIfInBounds_toArray, List.set_cons_zero, List.set_cons_succ]
    refine wpAnyH_take (i := 11) (v := .pointer (some ⟨g, 1, none⟩)) rfl (by kernel_rfl) (by kernel_rfl) (by kernel_rfl) (fun _ _ _ h => h) (Or.inl ⟨by rfl, fun w hSw => by go_simp⟩) (by assumption) ?_
    change wpAnyH _ _ _ _ _ _ _ (Act.put _ (some 23) _) _
    simp only [Act.put, List.setIfInBounds_toArray, List.set_cons_zero, List.set_cons_succ]
    refine wpAnyH_take (i := 12) (v := .int .i64 A) rfl (by kernel_rfl) (by kernel_rfl) (by kernel_rfl) (fun _ _ _ h => h) (Or.inl ⟨by rfl, fun w hSw => by obtain ⟨s0, s1⟩ := hSw; go_simp⟩) (by assumption) ?_
    change wpAnyH _ _ _ _ _ _ _ (Act.put _ (some 24) _) _
    simp only [Act.put, List.setIfInBounds_toArray, List.set_cons_zero, List.set_cons_succ]
    clear hHeld
    refine wpAnyH_ready (rs := [4, 13]) (by kernel_rfl) (by simp) ?_
    refine AllReadyH.cons rfl (fun K hK => ?_) (AllReadyH.cons rfl (fun K hK => ?_) AllReadyH.nil)
    · have cg := C0.out.c3
      go_simp
      refine hK.out _ _ ⟨C0.out.c0, C0.out.c1⟩ (fun hHeld => ?_)
      clear hK K cg hHeld
      refine wpAnyH_ready (rs := [13]) (by kernel_rfl) (by simp) ?_
      refine AllReadyH.cons rfl (fun K hK => ?_) AllReadyH.nil
      · go_simp
        refine (LD.out _ C0.out.mem).mono ?_
        rintro e x1 ⟨rfl, hm1, he1⟩
        have C1 := Lib.hid (C0.out.mem' hm1 he1)
        have O1 := Lib.hid (O0.out.trans (Only.of_else he1 ML.out.1 ML.out.2))
        clear hm1 he1
        go_wp2_with fail
        refine hK.out _ _ ⟨C1.out.c0, C1.out.c1⟩ (fun hHeld => ?_)
        clear hK K
        clear hHeld
        refine wpAnyH_ready (rs := [14]) (by kernel_rfl) (by simp) ?_
        refine AllReadyH.cons rfl (fun K hK => ?_) AllReadyH.nil
        · have C2 := Lib.hid (C1.out.next (box1 x1 (.cells #[.int .u64 (X : Int)] 35)))
          have O2 := Lib.hid (O1.out.trans (Only.of_below (box1 x1 (.cells #[.int .u64 (X : Int)] 35))))
          have V2 := Lib.hid (heap_new x1 (.cells #[.int .u64 (X : Int)] 35))
          go_simp
          refine hK.out _ _ ⟨C2.out.c0, C2.out.c1⟩ (fun hHeld => ?_)
          clear hK K hHeld
          generalize x1.alloc (.cells #[.int .u64 (X : Int)] 35) = x2 at *
          generalize x1.heap.size = vb at *
          refine wpAnyH_ready (rs := [15]) (by kernel_rfl) (by simp) ?_
          refine AllReadyH.cons rfl (fun K hK => ?_) AllReadyH.nil
          · obtain ⟨v', x3, hrun, hrow, hgr, hob⟩ := app_one C2.out.row V2.out few 31
            have C3 := Lib.hid (C2.out.grow hrow hgr hob)
            have O3 := Lib.hid (O2.out.trans (Only.of_grown hgr (fun k hk => copL_mem.2 (.inr (.inr (.inr hk))))))
            have W3 : Hid (OwnSt w0.heap.size v v') := by
              rcases hob with e | e
              · exact .inl e
              · exact .inr ⟨_, e, O2.out.size⟩
            refine step_append_run rfl _ _ 31 31 rfl _ _ (by simp [Act.eval]) (by simp [Act.eval]) hrun ?_
            refine hK.out _ _ ⟨C3.out.c0, C3.out.c1⟩ (fun hHeld => ?_)
            clear hK K hrun hrow hgr hob hHeld
            change wpAnyH _ _ _ _ _ _ _ (Act.put _ (some 27) _) _
            simp only [Act.put, List.setIfInBounds_toArray, List.set_cons_zero, List.set_cons_succ]
            have hHeld : x3.cell? ⟨g, 0, none⟩ = some (.pointer (some ⟨mg, 0, none⟩)) ∧ x3.cell? ⟨g, 1, none⟩ = some (.int .i64 A) := ⟨C3.out.c0, C3.out.c1⟩
            refine wpAnyH_take (i := 16) (v := .pointer (some ⟨g, 0, none⟩)) rfl (by kernel_rfl) (by kernel_rfl) (by kernel_rfl) (fun _ _ _ h => h) (Or.inl ⟨by rfl, fun w hSw => by go_simp⟩) (by assumption) ?_
            change wpAnyH _ _ _ _ _ _ _ (Act.put _ (some 28) _) _
            simp only [Act.put, List.setIfInBounds_toArray, List.set_cons_zero, List.set_cons_succ]
            refine wpAnyH_take (i := 17) (v := .pointer (some ⟨g, 3, none⟩)) rfl (by kernel_rfl) (by kernel_rfl) (by kernel_rfl) (fun _ _ _ h => h) (Or.inl ⟨by rfl, fun w hSw => by go_simp⟩) (by assumption) ?_
            change wpAnyH _ _ _ _ _ _ _ (Act.put _ (some 29) _) _
            simp only [Act.put, List.setIfInBounds_toArray, List.set_cons_zero, List.set_cons_succ]
            refine wpAnyH_ready (rs := [18]) (by kernel_rfl) (by simp) ?_
            refine AllReadyH.cons rfl (fun K hK => ?_) AllReadyH.nil
            obtain ⟨a', c', hfm⟩ := C3.out.row.form
            generalize (ws ++ [X]).length = n' at hfm
            have cg := C3.out.c3
            have zg := C3.out.fz 3
            have CZ := Lib.hid C3.out.put3
            have OZ := Lib.hid (O3.out.trans (Only.of_set (j := 3) (copL_mem.2 (.inl rfl)) v'))
            clear hHeld C3 O3
            subst hfm
            go_simp
            refine hK.out _ _ ⟨CZ.out.c0, CZ.out.c1⟩ (fun hHeld => ?_)
            clear hK K hHeld
            refine wpAnyH_done (by kernel_rfl) ?_ _
            refine NoPanic.normal ?_
            go_wp2_with fail
            go_meet
            case rel => exact ⟨rfl, _, CZ.out, W3.out, OZ.out⟩
    · go_simp
      refine (LD.out _ C0.out.mem).mono ?_
      rintro e x1 ⟨rfl, hm1, he1⟩
      have C1 := Lib.hid (C0.out.mem' hm1 he1)
      have O1 := Lib.hid (O0.out.trans (Only.of_else he1 ML.out.1 ML.out.2))
      clear hm1 he1
      go_wp2_with fail
      refine hK.out _ _ ⟨C1.out.c0, C1.out.c1⟩ (fun hHeld => ?_)
      clear hK K
      clear hHeld
      refine wpAnyH_ready (rs := [4, 14]) (by kernel_rfl) (by simp) ?_
      refine AllReadyH.cons rfl (fun K hK => ?_) (AllReadyH.cons rfl (fun K hK => ?_) AllReadyH.nil)
      · have cg := C1.out.c3
        go_simp
        refine hK.out _ _ ⟨C1.out.c0, C1.out.c1⟩ (fun hHeld => ?_)
        clear hK K cg hHeld
        refine wpAnyH_ready (rs := [14]) (by kernel_rfl) (by simp) ?_
        refine AllReadyH.cons rfl (fun K hK => ?_) AllReadyH.nil
        · have C2 := Lib.hid (C1.out.next (box1 x1 (.cells #[.int .u64 (X : Int)] 35)))
          have O2 := Lib.hid (O1.out.trans (Only.of_below (box1 x1 (.cells #[.int .u64 (X : Int)] 35))))
          have V2 := Lib.hid (heap_new x1 (.cells #[.int .u64 (X : Int)] 35))
          go_simp
          refine hK.out _ _ ⟨C2.out.c0, C2.out.c1⟩ (fun hHeld => ?_)
          clear hK K hHeld
          generalize x1.alloc (.cells #[.int .u64 (X : Int)] 35) = x2 at *
          generalize x1.heap.size = vb at *
          refine wpAnyH_ready (rs := [15]) (by kernel_rfl) (by simp) ?_
          refine AllReadyH.cons rfl (fun K hK => ?_) AllReadyH.nil
          · obtain ⟨v', x3, hrun, hrow, hgr, hob⟩ := app_one C2.out.row V2.out few 31
            have C3 := Lib.hid (C2.out.grow hrow hgr hob)
            have O3 := Lib.hid (O2.out.trans (Only.of_grown hgr (fun k hk => copL_mem.2 (.inr (.inr (.inr hk))))))
            have W3 : Hid (OwnSt w0.heap.size v v') := by
              rcases hob with e | e
              · exact .inl e
              · exact .inr ⟨_, e, O2.out.size⟩
            refine step_append_run rfl _ _ 31 31 rfl _ _ (by simp [Act.eval]) (by simp [Act.eval]) hrun ?_
            refine hK.out _ _ ⟨C3.out.c0, C3.out.c1⟩ (fun hHeld => ?_)
            clear hK K hrun hrow hgr hob hHeld
            change wpAnyH _ _ _ _ _ _ _ (Act.put _ (some 27) _) _
            simp only [Act.put, List.setIfInBounds_toArray, List.set_cons_zero, List.set_cons_succ]
            have hHeld : x3.cell? ⟨g, 0, none⟩ = some (.pointer (some ⟨mg, 0, none⟩)) ∧ x3.cell? ⟨g, 1, none⟩ = some (.int .i64 A) := ⟨C3.out.c0, C3.out.c1⟩
            refine wpAnyH_take (i := 16) (v := .pointer (some ⟨g, 0, none⟩)) rfl (by kernel_rfl) (by kernel_rfl) (by kernel_rfl) (fun _ _ _ h => h) (Or.inl ⟨by rfl, fun w hSw => by go_simp⟩) (by assumption) ?_
            change wpAnyH _ _ _ _ _ _ _ (Act.put _ (some 28) _) _
            simp only [Act.put, List.setIfInBounds_toArray, List.set_cons_zero, List.set_cons_succ]
            refine wpAnyH_take (i := 17) (v := .pointer (some ⟨g, 3, none⟩)) rfl (by kernel_rfl) (by kernel_rfl) (by kernel_rfl) (fun _ _ _ h => h) (Or.inl ⟨by rfl, fun w hSw => by go_simp⟩) (by assumption) ?_
            change wpAnyH _ _ _ _ _ _ _ (Act.put _ (some 29) _) _
            simp only [Act.put, List.setIfInBounds_toArray, List.set_cons_zero, List.set_cons_succ]
            refine wpAnyH_ready (rs := [18]) (by kernel_rfl) (by simp) ?_
            refine AllReadyH.cons rfl (fun K hK => ?_) AllReadyH.nil
            obtain ⟨a', c', hfm⟩ := C3.out.row.form
            generalize (ws ++ [X]).length = n' at hfm
            have cg := C3.out.c3
            have zg := C3.out.fz 3
            have CZ := Lib.hid C3.out.put3
            have OZ := Lib.hid (O3.out.trans (Only.of_set (j := 3) (copL_mem.2 (.inl rfl)) v'))
            clear hHeld C3 O3
            subst hfm
            go_simp
            refine hK.out _ _ ⟨CZ.out.c0, CZ.out.c1⟩ (fun hHeld => ?_)
            clear hK K hHeld
            refine wpAnyH_done (by kernel_rfl) ?_ _
            refine NoPanic.normal ?_
            go_wp2_with fail
            go_meet
            case rel => exact ⟨rfl, _, CZ.out, W3.out, OZ.out⟩
      · have C2 := Lib.hid (C1.out.next (box1 x1 (.cells #[.int .u64 (X : Int)] 35)))
        have O2 := Lib.hid (O1.out.trans (Only.of_below (box1 x1 (.cells #[.int .u64 (X : Int)] 35))))
        have V2 := Lib.hid (heap_new x1 (.cells #[.int .u64 (X : Int)] 35))
        go_simp
        refine hK.out _ _ ⟨C2.out.c0, C2.out.c1⟩ (fun hHeld => ?_)
        clear hK K hHeld
        generalize x1.alloc (.cells #[.int .u64 (X : Int)] 35) = x2 at *
        generalize x1.heap.size = vb at *
        refine wpAnyH_ready (rs := [4]) (by kernel_rfl) (by simp) ?_
        refine AllReadyH.cons rfl (fun K hK => ?_) AllReadyH.nil
        · have cg := C2.out.c3
          go_simp
          refine hK.out _ _ ⟨C2.out.c0, C2.out.c1⟩ (fun hHeld => ?_)
          clear hK K cg hHeld
          refine wpAnyH_ready (rs := [15]) (by kernel_rfl) (by simp) ?_
          refine AllReadyH.cons rfl (fun K hK => ?_) AllReadyH.nil
          · obtain ⟨v', x3, hrun, hrow, hgr, hob⟩ := app_one C2.out.row V2.out few 31
            have C3 := Lib.hid (C2.out.grow hrow hgr hob)
            have O3 := Lib.hid (O2.out.trans (Only.of_grown hgr (fun k hk => copL_mem.2 (.inr (.inr (.inr hk))))))
            have W3 : Hid (OwnSt w0.heap.size v v') := by
              rcases hob with e | e
              · exact .inl e
              · exact .inr ⟨_, e, O2.out.size⟩
            refine step_append_run rfl _ _ 31 31 rfl _ _ (by simp [Act.eval]) (by simp [Act.eval]) hrun ?_
            refine hK.out _ _ ⟨C3.out.c0, C3.out.c1⟩ (fun hHeld => ?_)
            clear hK K hrun hrow hgr hob hHeld
            change wpAnyH _ _ _ _ _ _ _ (Act.put _ (some 27) _) _
            simp only [Act.put, List.setIfInBounds_toArray, List.set_cons_zero, List.set_cons_succ]
            have hHeld : x3.cell? ⟨g, 0, none⟩ = some (.pointer (some ⟨mg, 0, none⟩)) ∧ x3.cell? ⟨g, 1, none⟩ = some (.int .i64 A) := ⟨C3.out.c0, C3.out.c1⟩
            refine wpAnyH_take (i := 16) (v := .pointer (some ⟨g, 0, none⟩)) rfl (by kernel_rfl) (by kernel_rfl) (by kernel_rfl) (fun _ _ _ h => h) (Or.inl ⟨by rfl, fun w hSw => by go_simp⟩) (by assumption) ?_
            change wpAnyH _ _ _ _ _ _ _ (Act.put _ (some 28) _) _
            simp only [Act.put, List.setIfInBounds_toArray, List.set_cons_zero, List.set_cons_succ]
            refine wpAnyH_take (i := 17) (v := .pointer (some ⟨g, 3, none⟩)) rfl (by kernel_rfl) (by kernel_rfl) (by kernel_rfl) (fun _ _ _ h => h) (Or.inl ⟨by rfl, fun w hSw => by go_simp⟩) (by assumption) ?_
            change wpAnyH _ _ _ _ _ _ _ (Act.put _ (some 29) _) _
            simp only [Act.put, List.setIfInBounds_toArray, List.set_cons_zero, List.set_cons_succ]
            refine wpAnyH_ready (rs := [18]) (by kernel_rfl) (by simp) ?_
            refine AllReadyH.cons rfl (fun K hK => ?_) AllReadyH.nil
            obtain ⟨a', c', hfm⟩ := C3.out.row.form
            generalize (ws ++ [X]).length = n' at hfm
            have cg := C3.out.c3
            have zg := C3.out.fz 3
            have CZ := Lib.hid C3.out.put3
            have OZ := Lib.hid (O3.out.trans (Only.of_set (j := 3) (copL_mem.2 (.inl rfl)) v'))
            clear hHeld C3 O3
            subst hfm
            go_simp
            refine hK.out _ _ ⟨CZ.out.c0, CZ.out.c1⟩ (fun hHeld => ?_)
            clear hK K hHeld
            refine wpAnyH_done (by kernel_rfl) ?_ _
            refine NoPanic.normal ?_
            go_wp2_with fail
            go_meet
            case rel => exact ⟨rfl, _, CZ.out, W3.out, OZ.out⟩
  case rest =>
    obtain ⟨rfl, v', hC, hW, hO⟩ := hcut
    have HR : Hid (((k : Int) == 0) = decide (k = 0)) := by show _ = _; rw [Bool.eq_iff_iff]; simp
    have HC := Lib.hid hC
    have HWW := Lib.hid hW
    have HOO := Lib.hid hO
    clear hC hW hO
    have c1 := HC.out.c1
    have c2 := HC.out.c2
    have z1 := HC.out.fz 1
    have z2 := HC.out.fz 2
    have H1 := Lib.hid ((HC.out.put1 (A + 1)).put2 (k : Int))
    have H2 := Lib.hid ((HOO.out.trans (Only.of_set (j := 1) GL.out (.int .i64 (A + 1)))).trans (Only.of_set (j := 2) GL.out (.int .i64 (k : Int))))
    go_wp2_with fail
    go_ret
    exact ⟨retb_eq HR.out, v', H1.out, HWW.out, H2.out⟩

/-- What it copied, as new memory. -/
theorem cwords_any (g mg mh : Nat) (A L : Int) (s : MSt) (v : Value) (ws : List Nat) (w : World) (h : Hid (CopV w g mg mh A L v s v ws)) (hw : ∀ x ∈ ws, x < 18446744073709551616) (few : ws.length ≤ 16777216) :
    Calls Try.prog 24 #[.pointer (some ⟨g, 0, none⟩)] w fun e w' => ∃ b, e = .returned (.slice (some ⟨b, 0, none⟩) ws.length ws.length) ∧ w'.heap[b]? = some (.cells (wordsOf ws) 35 (0, 0)) ∧ w.heap.size ≤ b ∧ Below w.heap.size w w' := by
  obtain ⟨a, c, hv, hrow⟩ := h.out.row.row hw
  have c3 := h.out.c3
  rw [hv] at c3
  have FR := Lib.hid fun w1 h1 => fresh_any a ws.length c (fun j => ws.getD j 0) w1 h1 few
  have HR := Lib.hid hrow
  have HL : Hid (listOf (fun j => ws.getD j 0) ws.length = ws) := by
    show _ = _
    apply List.ext_getElem
    · simp [listOf]
    · intro i h1 h2; simp [listOf, h2]
  clear hrow hw few
  rw [HL.out] at FR
  go_enter Try.func24, Try.ntmps24
  go_wp2_with fail
  refine (FR.out _ HR.out).mono ?_
  rintro e w1 ⟨b, rfl, h1, h2, h3⟩
  have H1 := Lib.hid h1
  have H3 := Lib.hid h3
  clear h1 h3
  go_wp2_with fail
  go_ret
  exact ⟨b, rfl, H1.out, h2, H3.out⟩

end Go.Proofs.Ytlpaijobcopbnaa
