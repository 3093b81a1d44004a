/- Joined from: PairLists. -/
import Derived.Test.YtbicnkopmamnpaaJ16
import Derived.Test.YtbicnkopmamnpaaJ01
import Derived.Deep.Strs
section

/- PairLists returns true for every pairs and every two glyphs, and changes nothing: of any pairs that rise each has its distance, and no other two glyphs have one; of others there is no subtable. No condition beside the row's own. -/
namespace Go.Proofs.Ytbicnkopmamnpaa
open Go.RowKit Go.Lib

def keyP (p : PrT) : Nat := p.1 * 65536 + p.2.1
def wantP (L R : Nat) (l : List PrT) : Int := l.foldl (fun acc p => if p.1 = L ∧ p.2.1 = R then p.2.2 else acc) 0
theorem wantP_snoc (L R : Nat) (l : List PrT) (p : PrT) : wantP L R (l ++ [p]) = if p.1 = L ∧ p.2.1 = R then p.2.2 else wantP L R l := by simp [wantP]
theorem wantP_or (L R : Nat) : ∀ (l : List PrT) (z : Int), (l.foldl (fun acc p => if p.1 = L ∧ p.2.1 = R then p.2.2 else acc) z = z ∧ ∀ p ∈ l, ¬ (p.1 = L ∧ p.2.1 = R)) ∨ ∃ p ∈ l, (p.1 = L ∧ p.2.1 = R) ∧ l.foldl (fun acc p => if p.1 = L ∧ p.2.1 = R then p.2.2 else acc) z = p.2.2
  | [], z => .inl ⟨rfl, fun p h => by cases h⟩
  | q :: l, z => by
    rw [List.foldl_cons]
    by_cases hq : q.1 = L ∧ q.2.1 = R
    · rw [if_pos hq]
      rcases wantP_or L R l q.2.2 with ⟨h1, _⟩ | ⟨p, hp, h1, h2⟩
      · exact .inr ⟨q, by simp, hq, h1⟩
      · exact .inr ⟨p, by simp [hp], h1, h2⟩
    · rw [if_neg hq]
      rcases wantP_or L R l z with ⟨h1, h2⟩ | ⟨p, hp, h1, h2⟩
      · exact .inl ⟨h1, fun p hp => by
          rcases List.mem_cons.1 hp with rfl | hp
          · exact hq
          · exact h2 p hp⟩
      · exact .inr ⟨p, by simp [hp], h1, h2⟩
theorem distP_want {l : List PrT} (hn : l.length ≤ 65535) (hok : ∀ p ∈ l, PrT.ok p) (h : PListOk (listB l)) (L R : Nat) : distP (listB l) (L : Nat) (R : Nat) = wantP L R l := by
  rcases wantP_or L R l 0 with ⟨h1, h2⟩ | ⟨p, hp, ⟨h1, h2⟩, h3⟩
  · rw [distP_out hn hok (fun p hp ⟨k1, k2⟩ => h2 p hp ⟨by omega, by omega⟩)]
    exact h1.symm
  · obtain ⟨i, hi⟩ := List.getElem?_of_mem hp
    have := distP_in hn hok h hi
    rw [h1, h2] at this
    rw [this]
    exact h3.symm
set_option maxRecDepth 100000 in
theorem open_pairs {H : Type} {enc : TypeId × Value → H} {W : World} {base : Nat} {v : Value} {d : DataW H} {p : List MemPlace} (hv : Value.okWide Try.prog W .any base 110 v) (h : DataW.Trod enc Try.prog W 0 (fun _ => true) true 110 v d p) :
    ∃ (a : Option Addr) (n c : Nat) (l : List PrT), v = .slice a n c ∧ l.length = n ∧ Has W a (prV l) ∧ ∀ p ∈ l, PrT.ok p := by
  obtain ⟨a, n, c, us, rfl, hl, _, _, _, hh, hx⟩ := open_rows Try.underlying110 hv h
  have key : ∀ us : List (List Value), (∀ x ∈ us, x.length = Try.prog.cellsOf 114 ∧ ∃ m y, DataW.trod enc Try.prog W 0 (fun _ => true) true m 114 x = some y) → ∃ l : List PrT, l.length = us.length ∧ us.flatten = prV l ∧ ∀ p ∈ l, PrT.ok p := by
    intro us
    induction us with
    | nil => exact fun _ => ⟨[], rfl, rfl, fun p h => by cases h⟩
    | cons x us ih =>
      intro h
      obtain ⟨l, q1, q2, q3⟩ := ih (fun y hy => h y (by simp [hy]))
      obtain ⟨hlx, m, y, hy⟩ := h x (by simp)
      obtain ⟨y0, y1, y2, k, _, _, t0, t1, t2⟩ := Go.Deep.trod_struct3 Try.underlying114 hy
      have ce : Try.prog.cellsOf 114 = 3 := by kernel_rfl
      have c0 : Try.prog.cellsOf 111 = 1 := by kernel_rfl
      have c1 : Try.prog.cellsOf 112 = 1 := by kernel_rfl
      rw [ce] at hlx
      simp only [c0, c1] at t0 t1 t2
      match x, hlx with
      | [x0, x1, x2], _ =>
        simp only [List.drop_zero, List.drop_succ_cons, List.take_succ_cons, List.take_zero] at t0 t1 t2
        obtain ⟨z0, e0, _, w0⟩ := DataW.trod_int Try.underlying111 t0
        obtain ⟨z1, e1, _, w1⟩ := DataW.trod_int Try.underlying111 t1
        obtain ⟨z2, e2, _, w2⟩ := DataW.trod_int Try.underlying112 t2
        simp only [List.cons.injEq, and_true] at e0 e1 e2
        subst e0 e1 e2
        obtain ⟨k0, rfl, b0⟩ := wf_u16 w0
        obtain ⟨k1, rfl, b1⟩ := wf_u16 w1
        have b2 : -32768 ≤ z2 ∧ z2 ≤ 32767 := by
          simp [Lit.wf, IntKind.min, IntKind.max, IntKind.signed, IntKind.bits] at w2
          omega
        exact ⟨(k0, k1, z2) :: l, by simp [q1], by rw [List.flatten_cons, q2]; rfl, fun p hp => by
          rcases List.mem_cons.1 hp with rfl | hp
          · exact ⟨b0, b1, b2⟩
          · exact q3 p hp⟩
  obtain ⟨l, q1, q2, q3⟩ := key us hx
  exact ⟨a, n, c, l, rfl, q1.trans hl, q2 ▸ hh, q3⟩
def RiseTo (l : List PrT) (j : Nat) : Prop := ∀ (i : Nat) (p q : PrT), i + 1 < j → l[i]? = some p → l[i + 1]? = some q → keyP p < keyP q
theorem RiseTo.all {l : List PrT} (h : RiseTo l l.length) : RisesP l := fun i p q hp hq => h i p q (List.getElem?_eq_some_iff.1 hq).1 hp hq
set_option maxHeartbeats 25600000 in
set_option maxRecDepth 100000 in
theorem pairLists_walk (a : Option Addr) (n c : Nat) (l : List PrT) (L R : Nat) (w : World) (h : Has w a (prV l)) (hl : l.length = n) (hok : ∀ p ∈ l, PrT.ok p) (hL : L ≤ 65535) (hR : R ≤ 65535) :
    Calls Try.prog 11 #[.slice a n c, .int .u16 (L : Nat), .int .u16 (R : Nat)] w fun e w' => e = .returned (.bool true) ∧ Below w.heap.size w w' := by
  have hAC := allocC
  have hAF := allocF
  have HSP := Lib.hid (fun W => speaks22_any W)
  have HH := Lib.hid h
  have HLN := Lib.hid hl
  have HOK := Lib.hid hok
  clear h hl hok
  by_cases hbig : 60 < n
  · have d1 : decide (60 < (n : Int)) = true := by simp; omega
    go_enter Try.func11, Try.ntmps11
    go_wp2_with (first | (go_at_call 52; (with_reducible refine (HSP.out _).mono ?_); rintro e w1 ⟨rfl, hb1⟩; have h1c := bc hb1; have h1f := bf hb1; have h1z := hb1.size; try simp only [World.size_alloc, World.size_drew] at h1z))
    go_ret
    exact ⟨rfl, blw⟩
  have d1 : decide (60 < (n : Int)) = false := by simp; omega
  go_enter Try.func11, Try.ntmps11
  go_wp2_with fail
  refine (HSP.out w).mono ?_
  rintro e w1 ⟨rfl, hb1⟩
  have HB1 := Lib.hid hb1
  clear hb1
  go_wp2_with fail
  go_loopw [7, 8, 22] (fun v z i wr => ∃ (j : Nat) (b : Bool), j ≤ n ∧ v = .bool b ∧ z = .int .i64 (wantP L R (l.take j)) ∧ i = .int .i64 (j : Nat) ∧ (b = true → RiseTo l j) ∧ (b = false → ¬ RisesP l) ∧ Below w.heap.size w wr) (fun _ _ i _ => n - (Go.RowKit.intOf i).toNat)
  case atStart => exact ⟨0, true, Nat.zero_le _, rfl, rfl, rfl, (fun _ i p q hi => by omega), (fun h => by cases h), HB1.out⟩
  case round =>
    obtain ⟨j, b, hj, rfl, rfl, rfl, hbt, hbf, hb⟩ := hrel
    rename World => wr
    have HBT := Lib.hid hbt
    have HBF := Lib.hid hbf
    have HB := Lib.hid hb
    have hzr := hb.size
    clear hbt hbf hb
    by_cases hlt : j < n
    · obtain ⟨g, o, p, rfl, hg, hp, c0, c1, c2⟩ := prV_at (HH.out.below HB.out) (k := j) (by rw [HLN.out]; exact hlt)
      have hpo := HOK.out p (List.mem_of_getElem? hp)
      have HPJ := Lib.hid hp
      have HW := Lib.hid (show wantP L R (l.take (j + 1)) = if p.1 = L ∧ p.2.1 = R then p.2.2 else wantP L R (l.take j) from by rw [List.take_add_one, hp]; exact wantP_snoc L R _ p)
      obtain ⟨p1, p2, p3⟩ := p
      obtain ⟨o1, o2, o3⟩ := hpo
      simp only at c0 c1 c2 o1 o2 o3 HW
      have w16 : IntKind.i64.wrap p3 = p3 := IntWalk.i64_in _ (by omega)
      obtain ⟨Z, hZ⟩ : ∃ Z, Z = wantP L R (l.take j) := ⟨_, rfl⟩
      rw [← hZ] at HW ⊢
      clear hZ hp
      obtain ⟨U, hU⟩ : ∃ U, U = wr.alloc (Obj.cells #[.int .u16 (p1 : Nat), .int .u16 (p2 : Nat), .int .i16 p3] 114) := ⟨_, rfl⟩
      have hU' := hU
      have hbU : Below wr.heap.size wr U := by rw [hU]; exact balloc (brefl _) _
      have x10 : U.heap[wr.heap.size]? = some (.cells #[.int .u16 (p1 : Nat), .int .u16 (p2 : Nat), .int .i16 p3] 114 (0, 0)) := by rw [hU, heap_push, if_pos rfl]
      have q10 := fun o => cell_of_heap x10 o
      have l10 := (Array.getElem?_eq_some_iff.1 x10).1
      have HBU := Lib.hid (HB.out.trans (hbU.mono hzr))
      have hzU := hbU.size
      have lg : g < U.heap.size := by omega
      have HCU := Lib.hid (fun (q : Addr) (u : Value) (hq : wr.cell? q = some u) => (hbU.cell (p := q) (by have := cell_lt hq; exact this)).trans hq)
      clear hU hbU x10
      cases b with
      | false =>
        have HNR := Lib.hid (HBF.out rfl)
        go_wp2_with fail
        rw [← hU']
        clear hU'
        refine wp_region_tree (.step 0 (.step 1 (.step 2 (.step 3 (.step 4 (.step 5 (.step 6 (.step 7 (.step 8 (.step 9 (.step 10 (.step 11 (.step 12 (.step 13 (.step 14 (.step 15 (.step 16 (.step 17 (.step 18 (.step 19 (.step 20 (.step 21 (.step 22 (.step 23 (.step 24 (.step 25 (.step 26 (.step 27 (.step 28 (.step 29 (.step 30 (.step 31 (.step 32 (.step 33 (.step 34 (.step 35 (.step 36 (.step 37 (.step 38 .nil))))))))))))))))))))))))))))))))))))))) (by kernel_rfl) (by kernel_rfl) (by kernel_rfl) (by kernel_rfl) (by intro _ _ d_ _ _ h_; cases d_ <;> first | exact h_ | (dsimp +zetaDelta only at h_ ⊢; exact h_)) (fun w' => ∃ p : Wld U [], w' = p.val) (wld_start _ _) ?_
        have hG_ := @wldC U
        (refine tree_quiet gtA (by rfl) (by rfl) (fun K_ hK_ => ?_); go_big_quiet_op; refine hK_ _ ?_; clear hK_ K_)
        (refine tree_quiet gtA (by rfl) (by rfl) (fun K_ hK_ => ?_); go_big_quiet_op; refine hK_ _ ?_; clear hK_ K_)
        refine tree_skip gtA (by rfl) ?_; dsimp only [Act.put]; simp only [List.setIfInBounds_toArray, List.set_cons_succ, List.set_cons_zero]
        refine tree_skip gtA (by rfl) ?_; dsimp only [Act.put]; simp only [List.setIfInBounds_toArray, List.set_cons_succ, List.set_cons_zero]
        refine tree_skip gtA (by rfl) ?_; dsimp only [Act.put]; simp only [List.setIfInBounds_toArray, List.set_cons_succ, List.set_cons_zero]
        refine tree_skip gtA (by rfl) ?_; dsimp only [Act.put]; simp only [List.setIfInBounds_toArray, List.set_cons_succ, List.set_cons_zero]
        refine tree_skip gtA (by rfl) ?_; dsimp only [Act.put]; simp only [List.setIfInBounds_toArray, List.set_cons_succ, List.set_cons_zero]
        refine tree_skip gtA (by rfl) ?_; dsimp only [Act.put]; simp only [List.setIfInBounds_toArray, List.set_cons_succ, List.set_cons_zero]
        refine tree_skip gtA (by rfl) ?_; dsimp only [Act.put]; simp only [List.setIfInBounds_toArray, List.set_cons_succ, List.set_cons_zero]
        refine tree_skip gtA (by rfl) ?_; dsimp only [Act.put]; simp only [List.setIfInBounds_toArray, List.set_cons_succ, List.set_cons_zero]
        refine tree_skip gtA (by rfl) ?_; dsimp only [Act.put]; simp only [List.setIfInBounds_toArray, List.set_cons_succ, List.set_cons_zero]
        refine tree_skip gtA (by rfl) ?_; dsimp only [Act.put]; simp only [List.setIfInBounds_toArray, List.set_cons_succ, List.set_cons_zero]
        refine tree_skip gtA (by rfl) ?_; dsimp only [Act.put]; simp only [List.setIfInBounds_toArray, List.set_cons_succ, List.set_cons_zero]
        refine tree_skip gtA (by rfl) ?_; dsimp only [Act.put]; simp only [List.setIfInBounds_toArray, List.set_cons_succ, List.set_cons_zero]
        refine tree_skip gtA (by rfl) ?_; dsimp only [Act.put]; simp only [List.setIfInBounds_toArray, List.set_cons_succ, List.set_cons_zero]
        refine tree_skip gtA (by rfl) ?_; dsimp only [Act.put]; simp only [List.setIfInBounds_toArray, List.set_cons_succ, List.set_cons_zero]
        refine tree_skip gtA (by rfl) ?_; dsimp only [Act.put]; simp only [List.setIfInBounds_toArray, List.set_cons_succ, List.set_cons_zero]
        refine tree_skip gtA (by rfl) ?_; dsimp only [Act.put]; simp only [List.setIfInBounds_toArray, List.set_cons_succ, List.set_cons_zero]
        refine tree_skip gtA (by rfl) ?_; dsimp only [Act.put]; simp only [List.setIfInBounds_toArray, List.set_cons_succ, List.set_cons_zero]
        refine tree_skip gtA (by rfl) ?_; dsimp only [Act.put]; simp only [List.setIfInBounds_toArray, List.set_cons_succ, List.set_cons_zero]
        refine tree_skip gtA (by rfl) ?_; dsimp only [Act.put]; simp only [List.setIfInBounds_toArray, List.set_cons_succ, List.set_cons_zero]
        refine tree_skip gtA (by rfl) ?_; dsimp only [Act.put]; simp only [List.setIfInBounds_toArray, List.set_cons_succ, List.set_cons_zero]
        refine tree_skip gtA (by rfl) ?_; dsimp only [Act.put]; simp only [List.setIfInBounds_toArray, List.set_cons_succ, List.set_cons_zero]
        refine tree_skip gtA (by rfl) ?_; dsimp only [Act.put]; simp only [List.setIfInBounds_toArray, List.set_cons_succ, List.set_cons_zero]
        refine tree_skip gtA (by rfl) ?_; dsimp only [Act.put]; simp only [List.setIfInBounds_toArray, List.set_cons_succ, List.set_cons_zero]
        refine tree_skip gtA (by rfl) ?_; dsimp only [Act.put]; simp only [List.setIfInBounds_toArray, List.set_cons_succ, List.set_cons_zero]
        refine tree_skip gtA (by rfl) ?_; dsimp only [Act.put]; simp only [List.setIfInBounds_toArray, List.set_cons_succ, List.set_cons_zero]
        refine tree_skip gtA (by rfl) ?_; dsimp only [Act.put]; simp only [List.setIfInBounds_toArray, List.set_cons_succ, List.set_cons_zero]
        refine tree_skip gtA (by rfl) ?_; dsimp only [Act.put]; simp only [List.setIfInBounds_toArray, List.set_cons_succ, List.set_cons_zero]
        refine tree_skip gtA (by rfl) ?_; dsimp only [Act.put]; simp only [List.setIfInBounds_toArray, List.set_cons_succ, List.set_cons_zero]
        refine tree_skip gtA (by rfl) ?_; dsimp only [Act.put]; simp only [List.setIfInBounds_toArray, List.set_cons_succ, List.set_cons_zero]
        refine tree_skip gtA (by rfl) ?_; dsimp only [Act.put]; simp only [List.setIfInBounds_toArray, List.set_cons_succ, List.set_cons_zero]
        refine tree_skip gtA (by rfl) ?_; dsimp only [Act.put]; simp only [List.setIfInBounds_toArray, List.set_cons_succ, List.set_cons_zero]
        refine tree_skip gtA (by rfl) ?_; dsimp only [Act.put]; simp only [List.setIfInBounds_toArray, List.set_cons_succ, List.set_cons_zero]
        refine tree_skip gtA (by rfl) ?_; dsimp only [Act.put]; simp only [List.setIfInBounds_toArray, List.set_cons_succ, List.set_cons_zero]
        refine tree_skip gtA (by rfl) ?_; dsimp only [Act.put]; simp only [List.setIfInBounds_toArray, List.set_cons_succ, List.set_cons_zero]
        refine tree_skip gtA (by rfl) ?_; dsimp only [Act.put]; simp only [List.setIfInBounds_toArray, List.set_cons_succ, List.set_cons_zero]
        (refine tree_quiet gtA (by rfl) (by rfl) (fun K_ hK_ => ?_); go_big_quiet_op; refine hK_ _ ?_; clear hK_ K_)
        (refine tree_quiet gtA (by rfl) (by rfl) (fun K_ hK_ => ?_); go_big_quiet_op; refine hK_ _ ?_; clear hK_ K_)
        refine tree_nil ?_
        clear hG_
        by_cases m1 : p1 = L
        · by_cases m2 : p2 = R
          · have e1 : ((p1 : Int) == (L : Int)) = true := by simp; omega
            have e2 : ((p2 : Int) == (R : Int)) = true := by simp; omega
            go_wp2_with fail
            go_roundw
            case rel => exact ⟨j + 1, false, hlt, rfl, by rw [HW.out, if_pos ⟨m1, m2⟩], by go_num, (fun h => by cases h), (fun _ => HNR.out), HBU.out.drew⟩
            case measure => simp [Go.RowKit.intOf]; omega
          · have e1 : ((p1 : Int) == (L : Int)) = true := by simp; omega
            have e2 : ((p2 : Int) == (R : Int)) = false := by simp; omega
            go_wp2_with fail
            go_roundw
            case rel => exact ⟨j + 1, false, hlt, rfl, by rw [HW.out, if_neg (fun h => m2 h.2)], by go_num, (fun h => by cases h), (fun _ => HNR.out), HBU.out.drew⟩
            case measure => simp [Go.RowKit.intOf]; omega
        · have e1 : ((p1 : Int) == (L : Int)) = false := by simp; omega
          go_wp2_with fail
          go_roundw
          case rel => exact ⟨j + 1, false, hlt, rfl, by rw [HW.out, if_neg (fun h => m1 h.1)], by go_num, (fun h => by cases h), (fun _ => HNR.out), HBU.out.drew⟩
          case measure => simp [Go.RowKit.intOf]; omega
      | true =>
        have HRT := Lib.hid (HBT.out rfl)
        by_cases hj0 : j = 0
        · have j0 : ((j : Int) == 0) = true := by simp; omega
          have HR1 := Lib.hid (show RiseTo l (j + 1) from fun i p q hi => by omega)
          clear hj0
          go_wp2_with fail
          rw [← hU']
          clear hU'
          refine wp_region_tree (.step 0 (.step 1 (.step 2 (.step 3 (.step 4 (.step 5 (.step 6 (.step 7 (.step 8 (.step 9 (.step 10 (.step 11 (.step 12 (.step 13 (.step 14 (.step 15 (.step 16 (.step 17 (.step 18 (.step 19 (.step 20 (.step 21 (.step 22 (.step 23 (.step 24 (.step 25 (.step 26 (.step 27 (.step 28 (.step 29 (.step 30 (.step 31 (.step 32 (.step 33 (.step 34 (.step 35 (.step 36 (.step 37 (.step 38 .nil))))))))))))))))))))))))))))))))))))))) (by kernel_rfl) (by kernel_rfl) (by kernel_rfl) (by kernel_rfl) (by intro _ _ d_ _ _ h_; cases d_ <;> first | exact h_ | (dsimp +zetaDelta only at h_ ⊢; exact h_)) (fun w' => ∃ p : Wld U [], w' = p.val) (wld_start _ _) ?_
          have hG_ := @wldC U
          (refine tree_quiet gtA (by rfl) (by rfl) (fun K_ hK_ => ?_); go_big_quiet_op; refine hK_ _ ?_; clear hK_ K_)
          (refine tree_quiet gtA (by rfl) (by rfl) (fun K_ hK_ => ?_); go_big_quiet_op; refine hK_ _ ?_; clear hK_ K_)
          (refine tree_quiet gtA (by rfl) (by rfl) (fun K_ hK_ => ?_); go_big_quiet_op; refine hK_ _ ?_; clear hK_ K_)
          (refine tree_quiet gtA (by rfl) (by rfl) (fun K_ hK_ => ?_); go_big_quiet_op; refine hK_ _ ?_; clear hK_ K_)
          (refine tree_quiet gtA (by rfl) (by rfl) (fun K_ hK_ => ?_); go_big_quiet_op; refine hK_ _ ?_; clear hK_ K_)
          refine tree_skip gtA (by rfl) ?_; dsimp only [Act.put]; simp only [List.setIfInBounds_toArray, List.set_cons_succ, List.set_cons_zero]
          refine tree_skip gtA (by rfl) ?_; dsimp only [Act.put]; simp only [List.setIfInBounds_toArray, List.set_cons_succ, List.set_cons_zero]
          refine tree_skip gtA (by rfl) ?_; dsimp only [Act.put]; simp only [List.setIfInBounds_toArray, List.set_cons_succ, List.set_cons_zero]
          refine tree_skip gtA (by rfl) ?_; dsimp only [Act.put]; simp only [List.setIfInBounds_toArray, List.set_cons_succ, List.set_cons_zero]
          refine tree_skip gtA (by rfl) ?_; dsimp only [Act.put]; simp only [List.setIfInBounds_toArray, List.set_cons_succ, List.set_cons_zero]
          refine tree_skip gtA (by rfl) ?_; dsimp only [Act.put]; simp only [List.setIfInBounds_toArray, List.set_cons_succ, List.set_cons_zero]
          refine tree_skip gtA (by rfl) ?_; dsimp only [Act.put]; simp only [List.setIfInBounds_toArray, List.set_cons_succ, List.set_cons_zero]
          refine tree_skip gtA (by rfl) ?_; dsimp only [Act.put]; simp only [List.setIfInBounds_toArray, List.set_cons_succ, List.set_cons_zero]
          refine tree_skip gtA (by rfl) ?_; dsimp only [Act.put]; simp only [List.setIfInBounds_toArray, List.set_cons_succ, List.set_cons_zero]
          (refine tree_quiet gtA (by rfl) (by rfl) (fun K_ hK_ => ?_); go_big_quiet_op; refine hK_ _ ?_; clear hK_ K_)
          (refine tree_quiet gtA (by rfl) (by rfl) (fun K_ hK_ => ?_); go_big_quiet_op; refine hK_ _ ?_; clear hK_ K_)
          refine tree_skip gtA (by rfl) ?_; dsimp only [Act.put]; simp only [List.setIfInBounds_toArray, List.set_cons_succ, List.set_cons_zero]
          refine tree_skip gtA (by rfl) ?_; dsimp only [Act.put]; simp only [List.setIfInBounds_toArray, List.set_cons_succ, List.set_cons_zero]
          refine tree_skip gtA (by rfl) ?_; dsimp only [Act.put]; simp only [List.setIfInBounds_toArray, List.set_cons_succ, List.set_cons_zero]
          refine tree_skip gtA (by rfl) ?_; dsimp only [Act.put]; simp only [List.setIfInBounds_toArray, List.set_cons_succ, List.set_cons_zero]
          refine tree_skip gtA (by rfl) ?_; dsimp only [Act.put]; simp only [List.setIfInBounds_toArray, List.set_cons_succ, List.set_cons_zero]
          refine tree_skip gtA (by rfl) ?_; dsimp only [Act.put]; simp only [List.setIfInBounds_toArray, List.set_cons_succ, List.set_cons_zero]
          refine tree_skip gtA (by rfl) ?_; dsimp only [Act.put]; simp only [List.setIfInBounds_toArray, List.set_cons_succ, List.set_cons_zero]
          refine tree_skip gtA (by rfl) ?_; dsimp only [Act.put]; simp only [List.setIfInBounds_toArray, List.set_cons_succ, List.set_cons_zero]
          refine tree_skip gtA (by rfl) ?_; dsimp only [Act.put]; simp only [List.setIfInBounds_toArray, List.set_cons_succ, List.set_cons_zero]
          refine tree_skip gtA (by rfl) ?_; dsimp only [Act.put]; simp only [List.setIfInBounds_toArray, List.set_cons_succ, List.set_cons_zero]
          refine tree_skip gtA (by rfl) ?_; dsimp only [Act.put]; simp only [List.setIfInBounds_toArray, List.set_cons_succ, List.set_cons_zero]
          refine tree_skip gtA (by rfl) ?_; dsimp only [Act.put]; simp only [List.setIfInBounds_toArray, List.set_cons_succ, List.set_cons_zero]
          refine tree_skip gtA (by rfl) ?_; dsimp only [Act.put]; simp only [List.setIfInBounds_toArray, List.set_cons_succ, List.set_cons_zero]
          refine tree_skip gtA (by rfl) ?_; dsimp only [Act.put]; simp only [List.setIfInBounds_toArray, List.set_cons_succ, List.set_cons_zero]
          refine tree_skip gtA (by rfl) ?_; dsimp only [Act.put]; simp only [List.setIfInBounds_toArray, List.set_cons_succ, List.set_cons_zero]
          refine tree_skip gtA (by rfl) ?_; dsimp only [Act.put]; simp only [List.setIfInBounds_toArray, List.set_cons_succ, List.set_cons_zero]
          refine tree_skip gtA (by rfl) ?_; dsimp only [Act.put]; simp only [List.setIfInBounds_toArray, List.set_cons_succ, List.set_cons_zero]
          refine tree_skip gtA (by rfl) ?_; dsimp only [Act.put]; simp only [List.setIfInBounds_toArray, List.set_cons_succ, List.set_cons_zero]
          refine tree_skip gtA (by rfl) ?_; dsimp only [Act.put]; simp only [List.setIfInBounds_toArray, List.set_cons_succ, List.set_cons_zero]
          refine tree_skip gtA (by rfl) ?_; dsimp only [Act.put]; simp only [List.setIfInBounds_toArray, List.set_cons_succ, List.set_cons_zero]
          (refine tree_quiet gtA (by rfl) (by rfl) (fun K_ hK_ => ?_); go_big_quiet_op; refine hK_ _ ?_; clear hK_ K_)
          (refine tree_quiet gtA (by rfl) (by rfl) (fun K_ hK_ => ?_); go_big_quiet_op; refine hK_ _ ?_; clear hK_ K_)
          (refine tree_quiet gtA (by rfl) (by rfl) (fun K_ hK_ => ?_); go_big_quiet_op; refine hK_ _ ?_; clear hK_ K_)
          refine tree_nil ?_
          clear hG_
          by_cases m1 : p1 = L
          · by_cases m2 : p2 = R
            · have e1 : ((p1 : Int) == (L : Int)) = true := by simp; omega
              have e2 : ((p2 : Int) == (R : Int)) = true := by simp; omega
              go_wp2_with fail
              go_roundw
              case rel => exact ⟨j + 1, true, hlt, rfl, by rw [HW.out, if_pos ⟨m1, m2⟩], by go_num, (fun _ => HR1.out), (fun h => by cases h), HBU.out.drew⟩
              case measure => simp [Go.RowKit.intOf]; omega
            · have e1 : ((p1 : Int) == (L : Int)) = true := by simp; omega
              have e2 : ((p2 : Int) == (R : Int)) = false := by simp; omega
              go_wp2_with fail
              go_roundw
              case rel => exact ⟨j + 1, true, hlt, rfl, by rw [HW.out, if_neg (fun h => m2 h.2)], by go_num, (fun _ => HR1.out), (fun h => by cases h), HBU.out.drew⟩
              case measure => simp [Go.RowKit.intOf]; omega
          · have e1 : ((p1 : Int) == (L : Int)) = false := by simp; omega
            go_wp2_with fail
            go_roundw
            case rel => exact ⟨j + 1, true, hlt, rfl, by rw [HW.out, if_neg (fun h => m1 h.1)], by go_num, (fun _ => HR1.out), (fun h => by cases h), HBU.out.drew⟩
            case measure => simp [Go.RowKit.intOf]; omega
        · obtain ⟨k, rfl⟩ : ∃ k, j = k + 1 := ⟨j - 1, by omega⟩
          obtain ⟨g', o', q, he, hg', hq, b0, b1, b2⟩ := prV_at (HH.out.below HB.out) (k := k) (by rw [HLN.out]; omega)
          cases he
          have hqo := HOK.out q (List.mem_of_getElem? hq)
          have HQJ := Lib.hid hq
          obtain ⟨q1, q2, q3⟩ := q
          obtain ⟨u1, u2, u3⟩ := hqo
          simp only at b0 b1 b2 u1 u2 u3
          have b0 := HCU.out _ _ b0
          have b1 := HCU.out _ _ b1
          have w1_ : IntKind.i64.wrap ((k : Int) + 1 - 1) = (k : Int) := by rw [IntWalk.i64_in _ (by omega)]; omega
          have hkn : k < n := by omega
          have j0 : ((k : Int) + 1 == 0) = false := by simp; omega
          have HKS := Lib.hid (fun (hk : keyP (q1, q2, q3) < keyP (p1, p2, p3)) => HRT.out.succ HQJ.out HPJ.out hk)
          have HKN := Lib.hid (fun (hk : ¬ keyP (q1, q2, q3) < keyP (p1, p2, p3)) (hr : RisesP l) => hk (hr k _ _ HQJ.out HPJ.out))
          clear hq b2
          simp only [keyP] at HKS HKN
          by_cases s1 : q1 < p1
          · have d2 : decide (q1 < p1) = true := by simpa using s1
            have d2' : decide ((q1 : Int) < (p1 : Int)) = true := by simpa using s1
            have HR1 := Lib.hid (HKS.out (by omega))
            go_wp2_with fail
            rw [← hU']
            clear hU'
            refine wp_region_tree (.step 0 (.step 1 (.step 2 (.step 3 (.step 4 (.step 5 (.step 6 (.step 7 (.step 8 (.step 9 (.step 10 (.step 11 (.step 12 (.step 13 (.step 14 (.step 15 (.step 16 (.step 17 (.step 18 (.step 19 (.step 20 (.step 21 (.step 22 (.step 23 (.step 24 (.step 25 (.step 26 (.step 27 (.step 28 (.step 29 (.step 30 (.step 31 (.step 32 (.step 33 (.step 34 (.step 35 (.step 36 (.step 37 (.step 38 .nil))))))))))))))))))))))))))))))))))))))) (by kernel_rfl) (by kernel_rfl) (by kernel_rfl) (by kernel_rfl) (by intro _ _ d_ _ _ h_; cases d_ <;> first | exact h_ | (dsimp +zetaDelta only at h_ ⊢; exact h_)) (fun w' => ∃ p : Wld U [], w' = p.val) (wld_start _ _) ?_
            have hG_ := @wldC U
            (refine tree_quiet gtA (by rfl) (by rfl) (fun K_ hK_ => ?_); go_big_quiet_op; refine hK_ _ ?_; clear hK_ K_)
            (refine tree_quiet gtA (by rfl) (by rfl) (fun K_ hK_ => ?_); go_big_quiet_op; refine hK_ _ ?_; clear hK_ K_)
            (refine tree_quiet gtA (by rfl) (by rfl) (fun K_ hK_ => ?_); go_big_quiet_op; refine hK_ _ ?_; clear hK_ K_)
            (refine tree_quiet gtA (by rfl) (by rfl) (fun K_ hK_ => ?_); go_big_quiet_op; refine hK_ _ ?_; clear hK_ K_)
            (refine tree_quiet gtA (by rfl) (by rfl) (fun K_ hK_ => ?_); go_big_quiet_op; refine hK_ _ ?_; clear hK_ K_)
            (refine tree_quiet gtA (by rfl) (by rfl) (fun K_ hK_ => ?_); go_big_quiet_op; refine hK_ _ ?_; clear hK_ K_)
            (refine tree_quiet gtA (by rfl) (by rfl) (fun K_ hK_ => ?_); go_big_quiet_op; refine hK_ _ ?_; clear hK_ K_)
            (refine tree_quiet gtA (by rfl) (by rfl) (fun K_ hK_ => ?_); go_big_quiet_op; refine hK_ _ ?_; clear hK_ K_)
            (refine tree_quiet gtA (by rfl) (by rfl) (fun K_ hK_ => ?_); go_big_quiet_op; refine hK_ _ ?_; clear hK_ K_)
            (refine tree_quiet gtA (by rfl) (by rfl) (fun K_ hK_ => ?_); go_big_quiet_op; refine hK_ _ ?_; clear hK_ K_)
            (refine tree_quiet gtA (by rfl) (by rfl) (fun K_ hK_ => ?_); go_big_quiet_op; refine hK_ _ ?_; clear hK_ K_)
            (refine tree_quiet gtA (by rfl) (by rfl) (fun K_ hK_ => ?_); go_big_quiet_op; refine hK_ _ ?_; clear hK_ K_)
            (refine tree_quiet gtA (by rfl) (by rfl) (fun K_ hK_ => ?_); go_big_quiet_op; refine hK_ _ ?_; clear hK_ K_)
            (refine tree_quiet gtA (by rfl) (by rfl) (fun K_ hK_ => ?_); go_big_quiet_op; refine hK_ _ ?_; clear hK_ K_)
            (refine tree_quiet gtA (by rfl) (by rfl) (fun K_ hK_ => ?_); go_big_quiet_op; refine hK_ _ ?_; clear hK_ K_)
            (refine tree_quiet gtA (by rfl) (by rfl) (fun K_ hK_ => ?_); go_big_quiet_op; refine hK_ _ ?_; clear hK_ K_)
            refine tree_skip gtA (by rfl) ?_; dsimp only [Act.put]; simp only [List.setIfInBounds_toArray, List.set_cons_succ, List.set_cons_zero]
            refine tree_skip gtA (by rfl) ?_; dsimp only [Act.put]; simp only [List.setIfInBounds_toArray, List.set_cons_succ, List.set_cons_zero]
            refine tree_skip gtA (by rfl) ?_; dsimp only [Act.put]; simp only [List.setIfInBounds_toArray, List.set_cons_succ, List.set_cons_zero]
            refine tree_skip gtA (by rfl) ?_; dsimp only [Act.put]; simp only [List.setIfInBounds_toArray, List.set_cons_succ, List.set_cons_zero]
            refine tree_skip gtA (by rfl) ?_; dsimp only [Act.put]; simp only [List.setIfInBounds_toArray, List.set_cons_succ, List.set_cons_zero]
            refine tree_skip gtA (by rfl) ?_; dsimp only [Act.put]; simp only [List.setIfInBounds_toArray, List.set_cons_succ, List.set_cons_zero]
            refine tree_skip gtA (by rfl) ?_; dsimp only [Act.put]; simp only [List.setIfInBounds_toArray, List.set_cons_succ, List.set_cons_zero]
            refine tree_skip gtA (by rfl) ?_; dsimp only [Act.put]; simp only [List.setIfInBounds_toArray, List.set_cons_succ, List.set_cons_zero]
            refine tree_skip gtA (by rfl) ?_; dsimp only [Act.put]; simp only [List.setIfInBounds_toArray, List.set_cons_succ, List.set_cons_zero]
            refine tree_skip gtA (by rfl) ?_; dsimp only [Act.put]; simp only [List.setIfInBounds_toArray, List.set_cons_succ, List.set_cons_zero]
            refine tree_skip gtA (by rfl) ?_; dsimp only [Act.put]; simp only [List.setIfInBounds_toArray, List.set_cons_succ, List.set_cons_zero]
            refine tree_skip gtA (by rfl) ?_; dsimp only [Act.put]; simp only [List.setIfInBounds_toArray, List.set_cons_succ, List.set_cons_zero]
            refine tree_skip gtA (by rfl) ?_; dsimp only [Act.put]; simp only [List.setIfInBounds_toArray, List.set_cons_succ, List.set_cons_zero]
            refine tree_skip gtA (by rfl) ?_; dsimp only [Act.put]; simp only [List.setIfInBounds_toArray, List.set_cons_succ, List.set_cons_zero]
            refine tree_skip gtA (by rfl) ?_; dsimp only [Act.put]; simp only [List.setIfInBounds_toArray, List.set_cons_succ, List.set_cons_zero]
            refine tree_skip gtA (by rfl) ?_; dsimp only [Act.put]; simp only [List.setIfInBounds_toArray, List.set_cons_succ, List.set_cons_zero]
            refine tree_skip gtA (by rfl) ?_; dsimp only [Act.put]; simp only [List.setIfInBounds_toArray, List.set_cons_succ, List.set_cons_zero]
            refine tree_skip gtA (by rfl) ?_; dsimp only [Act.put]; simp only [List.setIfInBounds_toArray, List.set_cons_succ, List.set_cons_zero]
            refine tree_skip gtA (by rfl) ?_; dsimp only [Act.put]; simp only [List.setIfInBounds_toArray, List.set_cons_succ, List.set_cons_zero]
            refine tree_skip gtA (by rfl) ?_; dsimp only [Act.put]; simp only [List.setIfInBounds_toArray, List.set_cons_succ, List.set_cons_zero]
            (refine tree_quiet gtA (by rfl) (by rfl) (fun K_ hK_ => ?_); go_big_quiet_op; refine hK_ _ ?_; clear hK_ K_)
            (refine tree_quiet gtA (by rfl) (by rfl) (fun K_ hK_ => ?_); go_big_quiet_op; refine hK_ _ ?_; clear hK_ K_)
            (refine tree_quiet gtA (by rfl) (by rfl) (fun K_ hK_ => ?_); go_big_quiet_op; refine hK_ _ ?_; clear hK_ K_)
            refine tree_nil ?_
            clear hG_
            by_cases m1 : p1 = L
            · by_cases m2 : p2 = R
              · have e1 : ((p1 : Int) == (L : Int)) = true := by simp; omega
                have e2 : ((p2 : Int) == (R : Int)) = true := by simp; omega
                go_wp2_with fail
                go_roundw
                case rel => exact ⟨(k + 1) + 1, true, hlt, rfl, by rw [HW.out, if_pos ⟨m1, m2⟩], by go_num, (fun _ => HR1.out), (fun h => by cases h), HBU.out.drew⟩
                case measure => simp [Go.RowKit.intOf]; omega
              · have e1 : ((p1 : Int) == (L : Int)) = true := by simp; omega
                have e2 : ((p2 : Int) == (R : Int)) = false := by simp; omega
                go_wp2_with fail
                go_roundw
                case rel => exact ⟨(k + 1) + 1, true, hlt, rfl, by rw [HW.out, if_neg (fun h => m2 h.2)], by go_num, (fun _ => HR1.out), (fun h => by cases h), HBU.out.drew⟩
                case measure => simp [Go.RowKit.intOf]; omega
            · have e1 : ((p1 : Int) == (L : Int)) = false := by simp; omega
              go_wp2_with fail
              go_roundw
              case rel => exact ⟨(k + 1) + 1, true, hlt, rfl, by rw [HW.out, if_neg (fun h => m1 h.1)], by go_num, (fun _ => HR1.out), (fun h => by cases h), HBU.out.drew⟩
              case measure => simp [Go.RowKit.intOf]; omega
          · have d2 : decide (q1 < p1) = false := by simpa using s1
            have d2' : decide ((q1 : Int) < (p1 : Int)) = false := by simpa using s1
            by_cases s2 : q1 = p1
            · have d3 : ((q1 : Int) == (p1 : Int)) = true := by simp; omega
              have d3n : (q1 == p1) = true := by simp; omega
              by_cases s3 : q2 < p2
              · have d4 : decide (q2 < p2) = true := by simpa using s3
                have d4' : decide ((q2 : Int) < (p2 : Int)) = true := by simpa using s3
                have HR1 := Lib.hid (HKS.out (by omega))
                go_wp2_with fail
                rw [← hU']
                clear hU'
                refine wp_region_tree (.step 0 (.step 1 (.step 2 (.step 3 (.step 4 (.step 5 (.step 6 (.step 7 (.step 8 (.step 9 (.step 10 (.step 11 (.step 12 (.step 13 (.step 14 (.step 15 (.step 16 (.step 17 (.step 18 (.step 19 (.step 20 (.step 21 (.step 22 (.step 23 (.step 24 (.step 25 (.step 26 (.step 27 (.step 28 (.step 29 (.step 30 (.step 31 (.step 32 (.step 33 (.step 34 (.step 35 (.step 36 (.step 37 (.step 38 .nil))))))))))))))))))))))))))))))))))))))) (by kernel_rfl) (by kernel_rfl) (by kernel_rfl) (by kernel_rfl) (by intro _ _ d_ _ _ h_; cases d_ <;> first | exact h_ | (dsimp +zetaDelta only at h_ ⊢; exact h_)) (fun w' => ∃ p : Wld U [], w' = p.val) (wld_start _ _) ?_
                have hG_ := @wldC U
                (refine tree_quiet gtA (by rfl) (by rfl) (fun K_ hK_ => ?_); go_big_quiet_op; refine hK_ _ ?_; clear hK_ K_)
                (refine tree_quiet gtA (by rfl) (by rfl) (fun K_ hK_ => ?_); go_big_quiet_op; refine hK_ _ ?_; clear hK_ K_)
                (refine tree_quiet gtA (by rfl) (by rfl) (fun K_ hK_ => ?_); go_big_quiet_op; refine hK_ _ ?_; clear hK_ K_)
                (refine tree_quiet gtA (by rfl) (by rfl) (fun K_ hK_ => ?_); go_big_quiet_op; refine hK_ _ ?_; clear hK_ K_)
                (refine tree_quiet gtA (by rfl) (by rfl) (fun K_ hK_ => ?_); go_big_quiet_op; refine hK_ _ ?_; clear hK_ K_)
                (refine tree_quiet gtA (by rfl) (by rfl) (fun K_ hK_ => ?_); go_big_quiet_op; refine hK_ _ ?_; clear hK_ K_)
                (refine tree_quiet gtA (by rfl) (by rfl) (fun K_ hK_ => ?_); go_big_quiet_op; refine hK_ _ ?_; clear hK_ K_)
                (refine tree_quiet gtA (by rfl) (by rfl) (fun K_ hK_ => ?_); go_big_quiet_op; refine hK_ _ ?_; clear hK_ K_)
                (refine tree_quiet gtA (by rfl) (by rfl) (fun K_ hK_ => ?_); go_big_quiet_op; refine hK_ _ ?_; clear hK_ K_)
                (refine tree_quiet gtA (by rfl) (by rfl) (fun K_ hK_ => ?_); go_big_quiet_op; refine hK_ _ ?_; clear hK_ K_)
                (refine tree_quiet gtA (by rfl) (by rfl) (fun K_ hK_ => ?_); go_big_quiet_op; refine hK_ _ ?_; clear hK_ K_)
                (refine tree_quiet gtA (by rfl) (by rfl) (fun K_ hK_ => ?_); go_big_quiet_op; refine hK_ _ ?_; clear hK_ K_)
                (refine tree_quiet gtA (by rfl) (by rfl) (fun K_ hK_ => ?_); go_big_quiet_op; refine hK_ _ ?_; clear hK_ K_)
                (refine tree_quiet gtA (by rfl) (by rfl) (fun K_ hK_ => ?_); go_big_quiet_op; refine hK_ _ ?_; clear hK_ K_)
                (refine tree_quiet gtA (by rfl) (by rfl) (fun K_ hK_ => ?_); go_big_quiet_op; refine hK_ _ ?_; clear hK_ K_)
                (refine tree_quiet gtA (by rfl) (by rfl) (fun K_ hK_ => ?_); go_big_quiet_op; refine hK_ _ ?_; clear hK_ K_)
                (refine tree_quiet gtA (by rfl) (by rfl) (fun K_ hK_ => ?_); go_big_quiet_op; refine hK_ _ ?_; clear hK_ K_)
                (refine tree_quiet gtA (by rfl) (by rfl) (fun K_ hK_ => ?_); go_big_quiet_op; refine hK_ _ ?_; clear hK_ K_)
                (refine tree_quiet gtA (by rfl) (by rfl) (fun K_ hK_ => ?_); go_big_quiet_op; refine hK_ _ ?_; clear hK_ K_)
                (refine tree_quiet gtA (by rfl) (by rfl) (fun K_ hK_ => ?_); go_big_quiet_op; refine hK_ _ ?_; clear hK_ K_)
                (refine tree_quiet gtA (by rfl) (by rfl) (fun K_ hK_ => ?_); go_big_quiet_op; refine hK_ _ ?_; clear hK_ K_)
                (refine tree_quiet gtA (by rfl) (by rfl) (fun K_ hK_ => ?_); go_big_quiet_op; refine hK_ _ ?_; clear hK_ K_)
                (refine tree_quiet gtA (by rfl) (by rfl) (fun K_ hK_ => ?_); go_big_quiet_op; refine hK_ _ ?_; clear hK_ K_)
                (refine tree_quiet gtA (by rfl) (by rfl) (fun K_ hK_ => ?_); go_big_quiet_op; refine hK_ _ ?_; clear hK_ K_)
                (refine tree_quiet gtA (by rfl) (by rfl) (fun K_ hK_ => ?_); go_big_quiet_op; refine hK_ _ ?_; clear hK_ K_)
                (refine tree_quiet gtA (by rfl) (by rfl) (fun K_ hK_ => ?_); go_big_quiet_op; refine hK_ _ ?_; clear hK_ K_)
                (refine tree_quiet gtA (by rfl) (by rfl) (fun K_ hK_ => ?_); go_big_quiet_op; refine hK_ _ ?_; clear hK_ K_)
                (refine tree_quiet gtA (by rfl) (by rfl) (fun K_ hK_ => ?_); go_big_quiet_op; refine hK_ _ ?_; clear hK_ K_)
                (refine tree_quiet gtA (by rfl) (by rfl) (fun K_ hK_ => ?_); go_big_quiet_op; refine hK_ _ ?_; clear hK_ K_)
                (refine tree_quiet gtA (by rfl) (by rfl) (fun K_ hK_ => ?_); go_big_quiet_op; refine hK_ _ ?_; clear hK_ K_)
                (refine tree_quiet gtA (by rfl) (by rfl) (fun K_ hK_ => ?_); go_big_quiet_op; refine hK_ _ ?_; clear hK_ K_)
                (refine tree_quiet gtA (by rfl) (by rfl) (fun K_ hK_ => ?_); go_big_quiet_op; refine hK_ _ ?_; clear hK_ K_)
                (refine tree_quiet gtA (by rfl) (by rfl) (fun K_ hK_ => ?_); go_big_quiet_op; refine hK_ _ ?_; clear hK_ K_)
                (refine tree_quiet gtA (by rfl) (by rfl) (fun K_ hK_ => ?_); go_big_quiet_op; refine hK_ _ ?_; clear hK_ K_)
                (refine tree_quiet gtA (by rfl) (by rfl) (fun K_ hK_ => ?_); go_big_quiet_op; refine hK_ _ ?_; clear hK_ K_)
                (refine tree_quiet gtA (by rfl) (by rfl) (fun K_ hK_ => ?_); go_big_quiet_op; refine hK_ _ ?_; clear hK_ K_)
                (refine tree_quiet gtA (by rfl) (by rfl) (fun K_ hK_ => ?_); go_big_quiet_op; refine hK_ _ ?_; clear hK_ K_)
                (refine tree_quiet gtA (by rfl) (by rfl) (fun K_ hK_ => ?_); go_big_quiet_op; refine hK_ _ ?_; clear hK_ K_)
                (refine tree_quiet gtA (by rfl) (by rfl) (fun K_ hK_ => ?_); go_big_quiet_op; refine hK_ _ ?_; clear hK_ K_)
                refine tree_nil ?_
                clear hG_
                by_cases m1 : p1 = L
                · by_cases m2 : p2 = R
                  · have e1 : ((p1 : Int) == (L : Int)) = true := by simp; omega
                    have e2 : ((p2 : Int) == (R : Int)) = true := by simp; omega
                    go_wp2_with fail
                    go_roundw
                    case rel => exact ⟨(k + 1) + 1, true, hlt, rfl, by rw [HW.out, if_pos ⟨m1, m2⟩], by go_num, (fun _ => HR1.out), (fun h => by cases h), HBU.out.drew⟩
                    case measure => simp [Go.RowKit.intOf]; omega
                  · have e1 : ((p1 : Int) == (L : Int)) = true := by simp; omega
                    have e2 : ((p2 : Int) == (R : Int)) = false := by simp; omega
                    go_wp2_with fail
                    go_roundw
                    case rel => exact ⟨(k + 1) + 1, true, hlt, rfl, by rw [HW.out, if_neg (fun h => m2 h.2)], by go_num, (fun _ => HR1.out), (fun h => by cases h), HBU.out.drew⟩
                    case measure => simp [Go.RowKit.intOf]; omega
                · have e1 : ((p1 : Int) == (L : Int)) = false := by simp; omega
                  go_wp2_with fail
                  go_roundw
                  case rel => exact ⟨(k + 1) + 1, true, hlt, rfl, by rw [HW.out, if_neg (fun h => m1 h.1)], by go_num, (fun _ => HR1.out), (fun h => by cases h), HBU.out.drew⟩
                  case measure => simp [Go.RowKit.intOf]; omega
              · have d4 : decide (q2 < p2) = false := by simpa using s3
                have d4' : decide ((q2 : Int) < (p2 : Int)) = false := by simpa using s3
                have HNR := Lib.hid (HKN.out (by omega))
                go_wp2_with fail
                rw [← hU']
                clear hU'
                refine wp_region_tree (.step 0 (.step 1 (.step 2 (.step 3 (.step 4 (.step 5 (.step 6 (.step 7 (.step 8 (.step 9 (.step 10 (.step 11 (.step 12 (.step 13 (.step 14 (.step 15 (.step 16 (.step 17 (.step 18 (.step 19 (.step 20 (.step 21 (.step 22 (.step 23 (.step 24 (.step 25 (.step 26 (.step 27 (.step 28 (.step 29 (.step 30 (.step 31 (.step 32 (.step 33 (.step 34 (.step 35 (.step 36 (.step 37 (.step 38 .nil))))))))))))))))))))))))))))))))))))))) (by kernel_rfl) (by kernel_rfl) (by kernel_rfl) (by kernel_rfl) (by intro _ _ d_ _ _ h_; cases d_ <;> first | exact h_ | (dsimp +zetaDelta only at h_ ⊢; exact h_)) (fun w' => ∃ p : Wld U [], w' = p.val) (wld_start _ _) ?_
                have hG_ := @wldC U
                (refine tree_quiet gtA (by rfl) (by rfl) (fun K_ hK_ => ?_); go_big_quiet_op; refine hK_ _ ?_; clear hK_ K_)
                (refine tree_quiet gtA (by rfl) (by rfl) (fun K_ hK_ => ?_); go_big_quiet_op; refine hK_ _ ?_; clear hK_ K_)
                (refine tree_quiet gtA (by rfl) (by rfl) (fun K_ hK_ => ?_); go_big_quiet_op; refine hK_ _ ?_; clear hK_ K_)
                (refine tree_quiet gtA (by rfl) (by rfl) (fun K_ hK_ => ?_); go_big_quiet_op; refine hK_ _ ?_; clear hK_ K_)
                (refine tree_quiet gtA (by rfl) (by rfl) (fun K_ hK_ => ?_); go_big_quiet_op; refine hK_ _ ?_; clear hK_ K_)
                (refine tree_quiet gtA (by rfl) (by rfl) (fun K_ hK_ => ?_); go_big_quiet_op; refine hK_ _ ?_; clear hK_ K_)
                (refine tree_quiet gtA (by rfl) (by rfl) (fun K_ hK_ => ?_); go_big_quiet_op; refine hK_ _ ?_; clear hK_ K_)
                (refine tree_quiet gtA (by rfl) (by rfl) (fun K_ hK_ => ?_); go_big_quiet_op; refine hK_ _ ?_; clear hK_ K_)
                (refine tree_quiet gtA (by rfl) (by rfl) (fun K_ hK_ => ?_); go_big_quiet_op; refine hK_ _ ?_; clear hK_ K_)
                (refine tree_quiet gtA (by rfl) (by rfl) (fun K_ hK_ => ?_); go_big_quiet_op; refine hK_ _ ?_; clear hK_ K_)
                (refine tree_quiet gtA (by rfl) (by rfl) (fun K_ hK_ => ?_); go_big_quiet_op; refine hK_ _ ?_; clear hK_ K_)
                (refine tree_quiet gtA (by rfl) (by rfl) (fun K_ hK_ => ?_); go_big_quiet_op; refine hK_ _ ?_; clear hK_ K_)
                (refine tree_quiet gtA (by rfl) (by rfl) (fun K_ hK_ => ?_); go_big_quiet_op; refine hK_ _ ?_; clear hK_ K_)
                (refine tree_quiet gtA (by rfl) (by rfl) (fun K_ hK_ => ?_); go_big_quiet_op; refine hK_ _ ?_; clear hK_ K_)
                (refine tree_quiet gtA (by rfl) (by rfl) (fun K_ hK_ => ?_); go_big_quiet_op; refine hK_ _ ?_; clear hK_ K_)
                (refine tree_quiet gtA (by rfl) (by rfl) (fun K_ hK_ => ?_); go_big_quiet_op; refine hK_ _ ?_; clear hK_ K_)
                (refine tree_quiet gtA (by rfl) (by rfl) (fun K_ hK_ => ?_); go_big_quiet_op; refine hK_ _ ?_; clear hK_ K_)
                (refine tree_quiet gtA (by rfl) (by rfl) (fun K_ hK_ => ?_); go_big_quiet_op; refine hK_ _ ?_; clear hK_ K_)
                (refine tree_quiet gtA (by rfl) (by rfl) (fun K_ hK_ => ?_); go_big_quiet_op; refine hK_ _ ?_; clear hK_ K_)
                (refine tree_quiet gtA (by rfl) (by rfl) (fun K_ hK_ => ?_); go_big_quiet_op; refine hK_ _ ?_; clear hK_ K_)
                (refine tree_quiet gtA (by rfl) (by rfl) (fun K_ hK_ => ?_); go_big_quiet_op; refine hK_ _ ?_; clear hK_ K_)
                (refine tree_quiet gtA (by rfl) (by rfl) (fun K_ hK_ => ?_); go_big_quiet_op; refine hK_ _ ?_; clear hK_ K_)
                (refine tree_quiet gtA (by rfl) (by rfl) (fun K_ hK_ => ?_); go_big_quiet_op; refine hK_ _ ?_; clear hK_ K_)
                (refine tree_quiet gtA (by rfl) (by rfl) (fun K_ hK_ => ?_); go_big_quiet_op; refine hK_ _ ?_; clear hK_ K_)
                (refine tree_quiet gtA (by rfl) (by rfl) (fun K_ hK_ => ?_); go_big_quiet_op; refine hK_ _ ?_; clear hK_ K_)
                (refine tree_quiet gtA (by rfl) (by rfl) (fun K_ hK_ => ?_); go_big_quiet_op; refine hK_ _ ?_; clear hK_ K_)
                (refine tree_quiet gtA (by rfl) (by rfl) (fun K_ hK_ => ?_); go_big_quiet_op; refine hK_ _ ?_; clear hK_ K_)
                (refine tree_quiet gtA (by rfl) (by rfl) (fun K_ hK_ => ?_); go_big_quiet_op; refine hK_ _ ?_; clear hK_ K_)
                (refine tree_quiet gtA (by rfl) (by rfl) (fun K_ hK_ => ?_); go_big_quiet_op; refine hK_ _ ?_; clear hK_ K_)
                (refine tree_quiet gtA (by rfl) (by rfl) (fun K_ hK_ => ?_); go_big_quiet_op; refine hK_ _ ?_; clear hK_ K_)
                (refine tree_quiet gtA (by rfl) (by rfl) (fun K_ hK_ => ?_); go_big_quiet_op; refine hK_ _ ?_; clear hK_ K_)
                (refine tree_quiet gtA (by rfl) (by rfl) (fun K_ hK_ => ?_); go_big_quiet_op; refine hK_ _ ?_; clear hK_ K_)
                (refine tree_quiet gtA (by rfl) (by rfl) (fun K_ hK_ => ?_); go_big_quiet_op; refine hK_ _ ?_; clear hK_ K_)
                (refine tree_quiet gtA (by rfl) (by rfl) (fun K_ hK_ => ?_); go_big_quiet_op; refine hK_ _ ?_; clear hK_ K_)
                (refine tree_quiet gtA (by rfl) (by rfl) (fun K_ hK_ => ?_); go_big_quiet_op; refine hK_ _ ?_; clear hK_ K_)
                (refine tree_quiet gtA (by rfl) (by rfl) (fun K_ hK_ => ?_); go_big_quiet_op; refine hK_ _ ?_; clear hK_ K_)
                (refine tree_quiet gtA (by rfl) (by rfl) (fun K_ hK_ => ?_); go_big_quiet_op; refine hK_ _ ?_; clear hK_ K_)
                (refine tree_quiet gtA (by rfl) (by rfl) (fun K_ hK_ => ?_); go_big_quiet_op; refine hK_ _ ?_; clear hK_ K_)
                (refine tree_quiet gtA (by rfl) (by rfl) (fun K_ hK_ => ?_); go_big_quiet_op; refine hK_ _ ?_; clear hK_ K_)
                refine tree_nil ?_
                clear hG_
                by_cases m1 : p1 = L
                · by_cases m2 : p2 = R
                  · have e1 : ((p1 : Int) == (L : Int)) = true := by simp; omega
                    have e2 : ((p2 : Int) == (R : Int)) = true := by simp; omega
                    go_wp2_with fail
                    go_roundw
                    case rel => exact ⟨(k + 1) + 1, false, hlt, rfl, by rw [HW.out, if_pos ⟨m1, m2⟩], by go_num, (fun h => by cases h), (fun _ => HNR.out), HBU.out.drew⟩
                    case measure => simp [Go.RowKit.intOf]; omega
                  · have e1 : ((p1 : Int) == (L : Int)) = true := by simp; omega
                    have e2 : ((p2 : Int) == (R : Int)) = false := by simp; omega
                    go_wp2_with fail
                    go_roundw
                    case rel => exact ⟨(k + 1) + 1, false, hlt, rfl, by rw [HW.out, if_neg (fun h => m2 h.2)], by go_num, (fun h => by cases h), (fun _ => HNR.out), HBU.out.drew⟩
                    case measure => simp [Go.RowKit.intOf]; omega
                · have e1 : ((p1 : Int) == (L : Int)) = false := by simp; omega
                  go_wp2_with fail
                  go_roundw
                  case rel => exact ⟨(k + 1) + 1, false, hlt, rfl, by rw [HW.out, if_neg (fun h => m1 h.1)], by go_num, (fun h => by cases h), (fun _ => HNR.out), HBU.out.drew⟩
                  case measure => simp [Go.RowKit.intOf]; omega
            · have d3 : ((q1 : Int) == (p1 : Int)) = false := by simp; omega
              have d3n : (q1 == p1) = false := by simp; omega
              have HNR := Lib.hid (HKN.out (by omega))
              go_wp2_with fail
              rw [← hU']
              clear hU'
              refine wp_region_tree (.step 0 (.step 1 (.step 2 (.step 3 (.step 4 (.step 5 (.step 6 (.step 7 (.step 8 (.step 9 (.step 10 (.step 11 (.step 12 (.step 13 (.step 14 (.step 15 (.step 16 (.step 17 (.step 18 (.step 19 (.step 20 (.step 21 (.step 22 (.step 23 (.step 24 (.step 25 (.step 26 (.step 27 (.step 28 (.step 29 (.step 30 (.step 31 (.step 32 (.step 33 (.step 34 (.step 35 (.step 36 (.step 37 (.step 38 .nil))))))))))))))))))))))))))))))))))))))) (by kernel_rfl) (by kernel_rfl) (by kernel_rfl) (by kernel_rfl) (by intro _ _ d_ _ _ h_; cases d_ <;> first | exact h_ | (dsimp +zetaDelta only at h_ ⊢; exact h_)) (fun w' => ∃ p : Wld U [], w' = p.val) (wld_start _ _) ?_
              have hG_ := @wldC U
              (refine tree_quiet gtA (by rfl) (by rfl) (fun K_ hK_ => ?_); go_big_quiet_op; refine hK_ _ ?_; clear hK_ K_)
              (refine tree_quiet gtA (by rfl) (by rfl) (fun K_ hK_ => ?_); go_big_quiet_op; refine hK_ _ ?_; clear hK_ K_)
              (refine tree_quiet gtA (by rfl) (by rfl) (fun K_ hK_ => ?_); go_big_quiet_op; refine hK_ _ ?_; clear hK_ K_)
              (refine tree_quiet gtA (by rfl) (by rfl) (fun K_ hK_ => ?_); go_big_quiet_op; refine hK_ _ ?_; clear hK_ K_)
              (refine tree_quiet gtA (by rfl) (by rfl) (fun K_ hK_ => ?_); go_big_quiet_op; refine hK_ _ ?_; clear hK_ K_)
              (refine tree_quiet gtA (by rfl) (by rfl) (fun K_ hK_ => ?_); go_big_quiet_op; refine hK_ _ ?_; clear hK_ K_)
              (refine tree_quiet gtA (by rfl) (by rfl) (fun K_ hK_ => ?_); go_big_quiet_op; refine hK_ _ ?_; clear hK_ K_)
              (refine tree_quiet gtA (by rfl) (by rfl) (fun K_ hK_ => ?_); go_big_quiet_op; refine hK_ _ ?_; clear hK_ K_)
              (refine tree_quiet gtA (by rfl) (by rfl) (fun K_ hK_ => ?_); go_big_quiet_op; refine hK_ _ ?_; clear hK_ K_)
              (refine tree_quiet gtA (by rfl) (by rfl) (fun K_ hK_ => ?_); go_big_quiet_op; refine hK_ _ ?_; clear hK_ K_)
              (refine tree_quiet gtA (by rfl) (by rfl) (fun K_ hK_ => ?_); go_big_quiet_op; refine hK_ _ ?_; clear hK_ K_)
              (refine tree_quiet gtA (by rfl) (by rfl) (fun K_ hK_ => ?_); go_big_quiet_op; refine hK_ _ ?_; clear hK_ K_)
              (refine tree_quiet gtA (by rfl) (by rfl) (fun K_ hK_ => ?_); go_big_quiet_op; refine hK_ _ ?_; clear hK_ K_)
              (refine tree_quiet gtA (by rfl) (by rfl) (fun K_ hK_ => ?_); go_big_quiet_op; refine hK_ _ ?_; clear hK_ K_)
              (refine tree_quiet gtA (by rfl) (by rfl) (fun K_ hK_ => ?_); go_big_quiet_op; refine hK_ _ ?_; clear hK_ K_)
              (refine tree_quiet gtA (by rfl) (by rfl) (fun K_ hK_ => ?_); go_big_quiet_op; refine hK_ _ ?_; clear hK_ K_)
              (refine tree_quiet gtA (by rfl) (by rfl) (fun K_ hK_ => ?_); go_big_quiet_op; refine hK_ _ ?_; clear hK_ K_)
              (refine tree_quiet gtA (by rfl) (by rfl) (fun K_ hK_ => ?_); go_big_quiet_op; refine hK_ _ ?_; clear hK_ K_)
              (refine tree_quiet gtA (by rfl) (by rfl) (fun K_ hK_ => ?_); go_big_quiet_op; refine hK_ _ ?_; clear hK_ K_)
              (refine tree_quiet gtA (by rfl) (by rfl) (fun K_ hK_ => ?_); go_big_quiet_op; refine hK_ _ ?_; clear hK_ K_)
              (refine tree_quiet gtA (by rfl) (by rfl) (fun K_ hK_ => ?_); go_big_quiet_op; refine hK_ _ ?_; clear hK_ K_)
              (refine tree_quiet gtA (by rfl) (by rfl) (fun K_ hK_ => ?_); go_big_quiet_op; refine hK_ _ ?_; clear hK_ K_)
              (refine tree_quiet gtA (by rfl) (by rfl) (fun K_ hK_ => ?_); go_big_quiet_op; refine hK_ _ ?_; clear hK_ K_)
              (refine tree_quiet gtA (by rfl) (by rfl) (fun K_ hK_ => ?_); go_big_quiet_op; refine hK_ _ ?_; clear hK_ K_)
              (refine tree_quiet gtA (by rfl) (by rfl) (fun K_ hK_ => ?_); go_big_quiet_op; refine hK_ _ ?_; clear hK_ K_)
              (refine tree_quiet gtA (by rfl) (by rfl) (fun K_ hK_ => ?_); go_big_quiet_op; refine hK_ _ ?_; clear hK_ K_)
              refine tree_skip gtA (by rfl) ?_; dsimp only [Act.put]; simp only [List.setIfInBounds_toArray, List.set_cons_succ, List.set_cons_zero]
              refine tree_skip gtA (by rfl) ?_; dsimp only [Act.put]; simp only [List.setIfInBounds_toArray, List.set_cons_succ, List.set_cons_zero]
              refine tree_skip gtA (by rfl) ?_; dsimp only [Act.put]; simp only [List.setIfInBounds_toArray, List.set_cons_succ, List.set_cons_zero]
              refine tree_skip gtA (by rfl) ?_; dsimp only [Act.put]; simp only [List.setIfInBounds_toArray, List.set_cons_succ, List.set_cons_zero]
              refine tree_skip gtA (by rfl) ?_; dsimp only [Act.put]; simp only [List.setIfInBounds_toArray, List.set_cons_succ, List.set_cons_zero]
              refine tree_skip gtA (by rfl) ?_; dsimp only [Act.put]; simp only [List.setIfInBounds_toArray, List.set_cons_succ, List.set_cons_zero]
              refine tree_skip gtA (by rfl) ?_; dsimp only [Act.put]; simp only [List.setIfInBounds_toArray, List.set_cons_succ, List.set_cons_zero]
              refine tree_skip gtA (by rfl) ?_; dsimp only [Act.put]; simp only [List.setIfInBounds_toArray, List.set_cons_succ, List.set_cons_zero]
              refine tree_skip gtA (by rfl) ?_; dsimp only [Act.put]; simp only [List.setIfInBounds_toArray, List.set_cons_succ, List.set_cons_zero]
              (refine tree_quiet gtA (by rfl) (by rfl) (fun K_ hK_ => ?_); go_big_quiet_op; refine hK_ _ ?_; clear hK_ K_)
              (refine tree_quiet gtA (by rfl) (by rfl) (fun K_ hK_ => ?_); go_big_quiet_op; refine hK_ _ ?_; clear hK_ K_)
              (refine tree_quiet gtA (by rfl) (by rfl) (fun K_ hK_ => ?_); go_big_quiet_op; refine hK_ _ ?_; clear hK_ K_)
              (refine tree_quiet gtA (by rfl) (by rfl) (fun K_ hK_ => ?_); go_big_quiet_op; refine hK_ _ ?_; clear hK_ K_)
              refine tree_nil ?_
              clear hG_
              by_cases m1 : p1 = L
              · by_cases m2 : p2 = R
                · have e1 : ((p1 : Int) == (L : Int)) = true := by simp; omega
                  have e2 : ((p2 : Int) == (R : Int)) = true := by simp; omega
                  go_wp2_with fail
                  go_roundw
                  case rel => exact ⟨(k + 1) + 1, false, hlt, rfl, by rw [HW.out, if_pos ⟨m1, m2⟩], by go_num, (fun h => by cases h), (fun _ => HNR.out), HBU.out.drew⟩
                  case measure => simp [Go.RowKit.intOf]; omega
                · have e1 : ((p1 : Int) == (L : Int)) = true := by simp; omega
                  have e2 : ((p2 : Int) == (R : Int)) = false := by simp; omega
                  go_wp2_with fail
                  go_roundw
                  case rel => exact ⟨(k + 1) + 1, false, hlt, rfl, by rw [HW.out, if_neg (fun h => m2 h.2)], by go_num, (fun h => by cases h), (fun _ => HNR.out), HBU.out.drew⟩
                  case measure => simp [Go.RowKit.intOf]; omega
              · have e1 : ((p1 : Int) == (L : Int)) = false := by simp; omega
                go_wp2_with fail
                go_roundw
                case rel => exact ⟨(k + 1) + 1, false, hlt, rfl, by rw [HW.out, if_neg (fun h => m1 h.1)], by go_num, (fun h => by cases h), (fun _ => HNR.out), HBU.out.drew⟩
                case measure => simp [Go.RowKit.intOf]; omega
    · obtain rfl : n = j := by omega
      have hl := HLN.out
      have HWR := Lib.hid (fun W (hW : Below w.heap.size w W) => write22_any a n c l W (HH.out.below hW) hl (by omega) HOK.out)
      have e1 : l.take n = l := List.take_of_length_le (by omega)
      rw [e1]
      have HDW := Lib.hid (fun (hr : RisesP l) => distP_want (by omega) HOK.out ((listB_ok l (by omega) HOK.out).2 hr) L R)
      obtain ⟨Z, hZ⟩ : ∃ Z, Z = wantP L R l := ⟨_, rfl⟩
      rw [← hZ] at HDW ⊢
      clear hZ e1
      cases b with
      | false =>
        have HNR := Lib.hid (HBF.out rfl)
        have h4 := eqPne
        go_wp2_with (first
          | (go_at_call 57; (with_reducible refine (HWR.out _ HB.out).mono ?_); rintro e w2 ⟨a2, c2, rfl, ho2, _, _, _, hb2⟩; have HO2 := Lib.hid (has_of_owns ho2); have HB2 := Lib.hid (HB.out.trans (hb2.mono HB.out.size)); clear ho2 hb2)
          | (go_at_call 53; (with_reducible refine (pread_list l (by omega) HOK.out a2 (16 + 6 * n) c2 9 9 rfl (by decide) (by decide) w2 HO2.out (by rw [hl])).mono ?_); rintro e w3 ⟨(⟨hr, _⟩ | ⟨_, rfl⟩), hb3⟩; (exact absurd hr HNR.out); have HB3 := Lib.hid (HB2.out.trans (hb3.mono HB2.out.size)); clear hb3))
        go_ret
        exact ⟨rfl, HB3.out⟩
      | true =>
        have HRP := Lib.hid (show RisesP l from RiseTo.all (by rw [hl]; exact HBT.out rfl))
        have h3 := eqPte
        go_wp2_with (first
          | (go_at_call 57; (with_reducible refine (HWR.out _ HB.out).mono ?_); rintro e w2 ⟨a2, c2, rfl, ho2, _, _, _, hb2⟩; have HO2 := Lib.hid (has_of_owns ho2); have HB2 := Lib.hid (HB.out.trans (hb2.mono HB.out.size)); clear ho2 hb2)
          | (go_at_call 53; (with_reducible refine (pread_list l (by omega) HOK.out a2 (16 + 6 * n) c2 9 9 rfl (by decide) (by decide) w2 HO2.out (by rw [hl])).mono ?_); rintro e w3 ⟨(⟨_, gx, rfl, hp⟩ | ⟨hr, _⟩), hb3⟩; rotate_left; (exact absurd HRP.out hr); have HP3 := Lib.hid hp; have HB3 := Lib.hid (HB2.out.trans (hb3.mono HB2.out.size)); clear hb3 hp))
        have HGT := Lib.hid (fun (x y : Int) hx hy (X : World) (hX : Below w3.heap.size w3 X) => pget_list (l := l) (by omega) HOK.out HRP.out _ _ gx x y X (HP3.out.below hX) hx hy)
        go_loopw [101] (fun i wq => ∃ k : Nat, k ≤ n ∧ i = .int .i64 (k : Nat) ∧ Below w3.heap.size w3 wq) (fun i _ => n - (Go.RowKit.intOf i).toNat)
        case atStart => exact ⟨0, Nat.zero_le _, rfl, brefl _⟩
        case round =>
          obtain ⟨k, hk, rfl, hbq⟩ := hrel
          rename World => wq
          have HBQ := Lib.hid hbq
          have hzq := hbq.size
          clear hbq
          by_cases hlk : k < n
          · obtain ⟨g, o, p, rfl, hg, hp, c0, c1, c2'⟩ := prV_at (HH.out.below (HB3.out.trans (HBQ.out.mono HB3.out.size))) (k := k) (by rw [hl]; exact hlk)
            have hpo := HOK.out p (List.mem_of_getElem? hp)
            have HPI := Lib.hid (distP_in (by omega) HOK.out ((listB_ok l (by omega) HOK.out).2 HRP.out) hp)
            obtain ⟨p1, p2, p3⟩ := p
            obtain ⟨o1, o2, o3⟩ := hpo
            simp only at c0 c1 c2' o1 o2 o3 HPI
            have w16 : IntKind.i64.wrap p3 = p3 := IntWalk.i64_in _ (by omega)
            obtain ⟨U, hU⟩ : ∃ U, U = wq.alloc (Obj.cells #[.int .u16 (p1 : Nat), .int .u16 (p2 : Nat), .int .i16 p3] 114) := ⟨_, rfl⟩
            have hbU : Below wq.heap.size wq U := by rw [hU]; exact balloc (brefl _) _
            have x14 : U.heap[wq.heap.size]? = some (.cells #[.int .u16 (p1 : Nat), .int .u16 (p2 : Nat), .int .i16 p3] 114 (0, 0)) := by rw [hU, heap_push, if_pos rfl]
            have q14 := fun o => cell_of_heap x14 o
            have l14 := (Array.getElem?_eq_some_iff.1 x14).1
            have HBU := Lib.hid (HBQ.out.trans (hbU.mono hzq))
            have HGU := Lib.hid (fun (X : World) (hX : Below U.heap.size U X) => HGT.out (p1 : Nat) (p2 : Nat) (by omega) (by omega) X (HBU.out.trans (hX.mono HBU.out.size)))
            rw [HPI.out] at HGU
            have U' := hU
            go_wp2_with fail
            rw [← hU]
            clear hU U' hbU x14 c0 c1 c2' hp
            refine wp_region_tree (.step 0 (.step 1 (.step 2 (.step 3 (.step 4 (.step 5 (.step 6 (.step 8 (.step 9 (.step 10 (.step 7 (.step 11 .nil)))))))))))) (by kernel_rfl) (by kernel_rfl) (by kernel_rfl) (by kernel_rfl) (by intro _ _ d_ _ _ h_; cases d_ <;> first | exact h_ | (dsimp +zetaDelta only at h_ ⊢; exact h_)) (fun w' => ∃ p : Wld U [], w' = p.val) (wld_start _ _) ?_
            have hG_ := @wldC U
            (refine tree_quiet gtA (by rfl) (by rfl) (fun K_ hK_ => ?_); go_big_quiet_op; refine hK_ _ ?_; clear hK_ K_)
            (refine tree_quiet gtA (by rfl) (by rfl) (fun K_ hK_ => ?_); go_big_quiet_op; refine hK_ _ ?_; clear hK_ K_)
            (refine tree_quiet gtA (by rfl) (by rfl) (fun K_ hK_ => ?_); go_big_quiet_op; refine hK_ _ ?_; clear hK_ K_)
            (refine tree_quiet gtA (by rfl) (by rfl) (fun K_ hK_ => ?_); go_big_quiet_op; refine hK_ _ ?_; clear hK_ K_)
            (refine tree_quiet gtA (by rfl) (by rfl) (fun K_ hK_ => ?_); go_big_quiet_op; refine hK_ _ ?_; clear hK_ K_)
            (refine tree_quiet gtA (by rfl) (by rfl) (fun K_ hK_ => ?_); go_big_quiet_op; refine hK_ _ ?_; clear hK_ K_)
            (refine tree_quiet gtA (by rfl) (by rfl) (fun K_ hK_ => ?_); go_big_quiet_op; refine hK_ _ ?_; clear hK_ K_)
            (refine tree_quiet gtA (by rfl) (by rfl) (fun K_ hK_ => ?_); go_big_quiet_op; refine hK_ _ ?_; clear hK_ K_)
            (refine tree_quiet gtA (by rfl) (by rfl) (fun K_ hK_ => ?_); go_big_quiet_op; refine hK_ _ ?_; clear hK_ K_)
            (refine tree_quiet gtA (by rfl) (by rfl) (fun K_ hK_ => ?_); go_big_quiet_op; refine hK_ _ ?_; clear hK_ K_)
            (refine tree_run gtA (by rfl) (by rfl) (fun K_ hK_ => ?_); have HK_ := Lib.hid hK_; clear hK_; go_wp2_with ((go_at_call 55; (with_reducible refine (HGU.out _ (by exact blw)).mono ?_); rintro e w5 ⟨rfl, hb5⟩; have h5c := bc hb5; have h5f := bf hb5; have h5z := hb5.size; try simp only [World.size_alloc, World.size_drew] at h5z)); refine HK_.out _ _ (wld_ofA) ?_; clear HK_)
            (refine tree_quiet gtA (by rfl) (by rfl) (fun K_ hK_ => ?_); go_big_quiet_op; refine hK_ _ ?_; clear hK_ K_)
            refine tree_nil ?_
            clear hG_
            have hb5u : Below U.heap.size U w5 := by exact blw
            have HB5 := Lib.hid (HBU.out.trans (hb5u.mono HBU.out.size))
            clear hb5u
            go_wp2_with fail
            go_roundw
            case rel => exact ⟨k + 1, hlk, by go_num, HB5.out⟩
            case measure => simp [Go.RowKit.intOf]; omega
          · obtain rfl : n = k := by omega
            have HG1 := Lib.hid (fun (X : World) (hX : Below w3.heap.size w3 X) => HGT.out (L : Nat) (R : Nat) (by omega) (by omega) X hX)
            rw [HDW.out HRP.out] at HG1
            have HG2 := Lib.hid (fun (X : World) (hX : Below w3.heap.size w3 X) => HGT.out (-1) 0 (by omega) (by omega) X hX)
            rw [distP_out (by omega) HOK.out (fun p hp ⟨h1, h2⟩ => by omega)] at HG2
            have HG3 := Lib.hid (fun (X : World) (hX : Below w3.heap.size w3 X) => HGT.out 0 65536 (by omega) (by omega) X hX)
            rw [distP_out (by omega) HOK.out (fun p hp ⟨h1, h2⟩ => by have := (HOK.out p hp).2.1; omega)] at HG3
            go_wp2_with (first
              | (go_at_call 55; (with_reducible refine (HG1.out _ HBQ.out).mono ?_); rintro e w5 ⟨rfl, hb5⟩; have HB5 := Lib.hid (HBQ.out.trans (hb5.mono HBQ.out.size)); clear hb5)
              | (go_at_call 55; (with_reducible refine (HG2.out _ HB5.out).mono ?_); rintro e w6 ⟨rfl, hb6⟩; have HB6 := Lib.hid (HB5.out.trans (hb6.mono HB5.out.size)); clear hb6)
              | (go_at_call 55; (with_reducible refine (HG3.out _ HB6.out).mono ?_); rintro e w7 ⟨rfl, hb7⟩; have HB7 := Lib.hid (HB6.out.trans (hb7.mono HB6.out.size)); clear hb7))
            go_ret
            exact ⟨by first | rfl | simp, HB3.out.trans (HB7.out.mono HB3.out.size)⟩

open Go.ChangeShapes Go.WideShapes Go.ChangeAt Go.RowKit
open Go.ChangeMaps (open_string shut_string)

set_option maxRecDepth 100000 in
theorem pairLists_walks (H : Type) (enc : TypeId × Value → H) : Walks H enc 11 [110, 111, 111] := by
  intro W base args ds p hval hA _
  obtain ⟨v0, vs0, d0, ds0, p0, q0, hargs, rfl, rfl, h0, r0⟩ := trodAll_cons hA
  obtain ⟨v1, vs1, d1, ds1, p1, q1, rfl, rfl, rfl, h1, r1⟩ := trodAll_cons r0
  obtain ⟨v2, vs2, d2, ds2, p2, q2, rfl, rfl, rfl, h2, r2⟩ := trodAll_cons r1
  obtain ⟨rfl, rfl, rfl⟩ := trodAll_nil r2
  obtain rfl : args = #[v0, v1, v2] := by cases args; simp_all
  obtain ⟨a, n, c, l, rfl, hl, hh, hok⟩ := open_pairs (hval 0 110 v0 rfl rfl) h0
  obtain ⟨L, rfl, t1⟩ := open_int Try.underlying111 (hval 1 111 v1 rfl rfl) h1
  obtain ⟨R, rfl, t2⟩ := open_int Try.underlying111 (hval 2 111 v2 rfl rfl) h2
  obtain ⟨k1, rfl, b1⟩ := wf_u16 t1
  obtain ⟨k2, rfl, b2⟩ := wf_u16 t2
  exact pairLists_walk a n c l k1 k2 W hh hl hok b1 b2

set_option maxRecDepth 100000 in
theorem pairLists_lifted (os : Os) (started : os.Started) (H : Type) (enc : TypeId × Value → H) :
    ReturnsInHanded {} Try.checked os 11 .any (Rows.pairListsSpec.pre6 enc Try.prog Try.f11 Rows.pairListsRow.domain false) (Rows.pairListsSpec.post enc Try.prog Try.f11 false true false false) :=
  lift_law (s := Rows.pairListsSpec) (fn := Try.f11) started (by kernel_rfl) Try.func11
    (ChangeSpec.witness6 (enc := enc) (C := Try.checked) false ⟨#[], #[.slice none 0 0, .int .u16 0, .int .u16 0], []⟩ 8 (by kernel_rfl) (by kernel_rfl) (by kernel_rfl) (by kernel_rfl))
    rfl rfl (fun ds h => by match ds, h with | [d0, d1, d2], _ => rfl) (by intro t ht; simp [Try.params11] at ht; first | (subst ht; exact ⟨by kernel_rfl, of_decide_eq_true (by kernel_rfl)⟩) | (obtain rfl | rfl := ht <;> exact ⟨by kernel_rfl, of_decide_eq_true (by kernel_rfl)⟩) | (obtain rfl | rfl | rfl := ht <;> exact ⟨by kernel_rfl, of_decide_eq_true (by kernel_rfl)⟩) | (obtain rfl | rfl | rfl | rfl := ht <;> exact ⟨by kernel_rfl, of_decide_eq_true (by kernel_rfl)⟩))
    (by rw [Try.params11]; exact pairLists_walks H enc)
theorem pairLists_over : Rows.pairListsRow.holds Try.pinned (OpenSpec.ofChange Rows.pairListsSpec) :=
  OpenClaim.holds_of_wide 11 Try.f11 rfl rfl rfl rfl rfl rfl rfl ⟨rfl, rfl, rfl, rfl, rfl⟩ rfl rfl rfl rfl rfl (by kernel_rfl) Try.func11 (by kernel_rfl)
    (of_decide_eq_true (by kernel_rfl)) (by unfold Func.isWrapper; first | (rw [if_pos (by decide +kernel)]; kernel_rfl) | (rw [if_neg (by decide +kernel)]; exact ⟨rfl, rfl⟩))
    (fun os started H enc _ => pairLists_lifted os started H enc)
theorem pairLists_proved : Rows.PairListsSaid := pairLists_over
#print axioms pairLists_proved
end Go.Proofs.Ytbicnkopmamnpaa
end
