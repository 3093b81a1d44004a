
/- The walk of CtxIdle. CtxIdle returns true for every plan of a machine and lookups, and every line, and changes nothing: entries that name no lookup, or lookups without a glyph, leave a line as it is. No condition beside the row's own. -/
import Derived.Test.YtcegoenlajkgfaaJ01
import Derived.Test.YtcegoenlajkgfaaJ21
import Derived.Test.YtcegoenlajkgfaaJ22
import Derived.Test.YtcegoenlajkgfaaJ17
import Derived.Test.YtcegoenlajkgfaaJ16
namespace Go.Proofs.Ytcegoenlajkgfaa
open Go.RowKit Go.Lib

theorem alloc07 (w : World) : (Instr.alloc 26 true (.tuple #[])).run Try.prog w = .ok (.pointer (some ⟨w.heap.size, 0, none⟩)) (w.alloc (.cells #[.slice none 0 0, .slice none 0 0, .slice none 0 0, .int .u8 0] 26)) := by kernel_rfl
theorem size07 : (Try.prog.info? 26).map (·.size) = some 4 := by kernel_rfl
theorem info_u16s : (Try.prog.info? 62).map (fun i => (i.zero, i.size, i.bytes)) = some (some (.slice none 0 0), 1, 24) := by kernel_rfl
set_option maxRecDepth 100000 in
set_option maxHeartbeats 12800000 in
theorem ctxIdle_walk (p : PlanL) (aC aR aE : Option Addr) (rv : List Value) (cC cR cE : Nat) (aS : Option Addr) (cS : Nat) (subs0 : List (List Nat)) (sv : List Value) (aI : Option Addr) (nI cI : Nat) (ids : List Int) (w : World) (hP : PlanHas w p aC aR rv aE) (hw : ∀ e ∈ p.ents, wfI e.1 ∧ wfI e.2.1 ∧ wfI e.2.2.1 ∧ wfI e.2.2.2) (hE0 : aE = none → cE = 0)
    (hS : SubsHas w aS subs0 sv) (hm : subs0.length ≤ maxLen) (hi : Has w aI (iv ids)) (hil : ids.length = nI) (hiw : ∀ z ∈ ids, -9223372036854775808 ≤ z ∧ z ≤ 9223372036854775807) (which : Bool) :
    Calls Try.prog 4 #[.agg #[.slice aC p.cls.length cC, .slice aR p.rows.length cR, .slice aE p.ents.length cE, .int .u8 (p.wide.toNat : Nat), .slice aS subs0.length cS], .slice aI nI cI, .bool which] w fun e w' => e = .returned (.bool true) ∧ Below w.heap.size w w' := by
  have hAC := allocC
  have hAF := allocF
  have HSP := Lib.hid (fun W (_ : Below w.heap.size w W) => speaks15_any W)
  have hsm := fun W (hW : Below w.heap.size w W) => small15_any aC aR aE aI aS p.cls.length p.rows.length p.ents.length nI subs0.length cC cR cE cI cS (p.wide.toNat : Int) subs0 sv W (hS.below hW) rfl (by unfold maxLen at hm; omega)
  have HI := Lib.hid hi
  have HIL := Lib.hid hil
  have HIW := Lib.hid hiw
  by_cases hs : Sm15 subs0 p.cls.length p.rows.length p.ents.length subs0.length nI
  case neg =>
    have HSM := Lib.hid (fun W (hW : Below w.heap.size w W) => (hsm W hW).mono (R' := fun e w' => e = .returned (.bool false) ∧ Below W.heap.size W w') (by
      rintro e w' ⟨⟨b, rfl, hb⟩, hb2⟩
      refine ⟨?_, hb2⟩
      cases b with
      | false => rfl
      | true => exact absurd (hb.1 rfl) hs))
    clear hsm hs hP hw hE0 hS hm hi hil hiw
    generalize p.cls.length = nC at *
    generalize p.rows.length = nR at *
    generalize p.ents.length = nE at *
    generalize subs0.length = nS at *
    generalize (p.wide.toNat : Int) = wd at *
    go_enter Try.func4, Try.ntmps4
    go_wp2_with (first | (go_at_call 12; (with_reducible refine (HSP.out _ (by exact blw)).mono ?_); rintro e w1 ⟨rfl, hb1⟩; have h1c := bc hb1; have h1f := bf hb1; have h1z := hb1.size; try simp only [World.size_alloc, World.size_drew] at h1z) | (go_at_call 13; (with_reducible refine (HSM.out _ (by exact blw)).mono ?_); rintro e w2 ⟨rfl, hb2⟩; have h2c := bc hb2; have h2f := bf hb2; have h2z := hb2.size; try simp only [World.size_alloc, World.size_drew] at h2z))
    go_ret
    exact ⟨rfl, blw⟩
  have HSM := Lib.hid (fun W (hW : Below w.heap.size w W) => (hsm W hW).mono (R' := fun e w' => e = .returned (.bool true) ∧ Below W.heap.size W w') (by
    rintro e w' ⟨⟨b, rfl, hb⟩, hb2⟩
    refine ⟨?_, hb2⟩
    rw [hb.2 hs]))
  obtain ⟨hs1, hs2, hs3, hs4, hs5, hI60⟩ := hs
  have hn2 : (ctxB (p.idleC which) (List.replicate subs0.length [])).length ≤ 4000 := ctxB_len (p.idleC which) (List.replicate subs0.length []) hs2 hs3 (by simp only [PlanL.idleC, List.length_map]; omega) (by rw [List.length_replicate]; omega) (fun r hr => by rw [List.eq_of_mem_replicate hr]; decide)
  have HID := Lib.hid (fun (rs : List RP) (S : Nat) (qs : List (List RP)) hok hN l => ctx_idle which p subs0.length hs2 hs3 hs4 (by omega) (rs := rs) (S := S) (qs := qs) hok hN l)
  have HWR := Lib.hid (fun W (hW : Below w.heap.size w W) (a : Option Addr) (c : Nat) (hE : Has W a ((p.ents.map (idleC which)).flatMap entC4)) (a2 : Option Addr) (c2 : Nat) (hA : Has W a2 (nilV subs0.length)) => by
    have hP2 := hP.below hW
    have := write15_any (p.idleC which) aC aR a rv cC cR c a2 subs0.length c2 (List.replicate subs0.length []) (nilV subs0.length) W ⟨hP2.cls, hP2.rows, hP2.rlen, hP2.row, hE⟩ (by show p.cls.length ≤ 1000; omega) (by show p.rows.length ≤ 1000; omega) (by simp only [PlanL.idleC, List.length_map]; omega) (idleC_wf which p.ents hw) (subsNil hA) List.length_replicate (by omega) (fun r hr => by rw [List.eq_of_mem_replicate hr]; decide) (fun r hr x hx => by rw [List.eq_of_mem_replicate hr] at hx; cases hx)
    rw [show (p.idleC which).ents.length = p.ents.length from by simp only [PlanL.idleC, List.length_map]] at this
    exact (show Calls Try.prog 14 #[.agg #[.slice aC p.cls.length cC, .slice aR p.rows.length cR, .slice a p.ents.length c, .int .u8 (p.wide.toNat : Nat)], .slice a2 subs0.length c2] W fun e w' => ∃ a' c', e = .returned (.slice a' (ctxB (p.idleC which) (List.replicate subs0.length [])).length c') ∧ w'.ownsRow W.heap.size 5 1 (.slice a' (ctxB (p.idleC which) (List.replicate subs0.length [])).length c') (ctxB (p.idleC which) (List.replicate subs0.length [])).length (bytesV (ctxB (p.idleC which) (List.replicate subs0.length []))) ∧ (ctxB (p.idleC which) (List.replicate subs0.length [])).length ≤ c' ∧ c' ≤ maxLen ∧ (a' = none → c' = 0) ∧ Below W.heap.size W w' from this))
  generalize hbs : ctxB (p.idleC which) (List.replicate subs0.length []) = bs at *
  obtain ⟨nB, hnB⟩ : ∃ nB, nB = bs.length := ⟨_, rfl⟩
  rw [← hnB] at HWR hn2
  have HL := Lib.hid hnB.symm
  have HEN := Lib.hid hP.ents
  have HE0 := Lib.hid hE0
  have HEL := Lib.hid (entC4_len p.ents)
  have HE1 := Lib.hid (entC4_one p.ents)
  have HST := Lib.hid (show mapL (idleC which) p.ents 0 = p.ents from mapL_zero _ _)
  have HSE := Lib.hid (mapL_all (idleC which) p.ents)
  obtain ⟨es, hes⟩ : ∃ es, es = p.ents := ⟨_, rfl⟩
  rw [← hes] at HWR HSM HEN HEL HE1 HSE HST HID hs4 ⊢
  obtain ⟨nE, hnE⟩ : ∃ nE, nE = es.length := ⟨_, rfl⟩
  rw [← hnE] at HWR HSM HEL HSE HID hs4 ⊢
  have HNE := Lib.hid hnE
  clear hsm hs1 hP hw hE0 hS hm hi hil hiw hbs hnB hes hnE
  generalize p.cls.length = nC at *
  generalize p.rows.length = nR at *
  generalize subs0.length = nS at *
  generalize (p.wide.toNat : Nat) = wy at *
  go_enter Try.func4, Try.ntmps4
  go_wp2_with (first
    | (go_at_call 12; (with_reducible refine (HSP.out _ (by exact blw)).mono ?_); rintro e w1 ⟨rfl, hb1⟩; have z1 := (hb1.block w.heap.size (by simp)).trans ((heap_push _ _ _).trans (if_pos rfl)); have HB1 := Lib.hid (show Below w.heap.size w w1 from (balloc (brefl w) _).trans (hb1.mono (by simp))); have l1 := (Array.getElem?_eq_some_iff.1 z1).1; have q1 := fun o => cell_of_heap z1 o; have f1 := fun o => froz_of_heap z1 o; have Z1 := Lib.hid z1; clear z1 hb1)
    | (go_at_call 13; (with_reducible refine (HSM.out _ HB1.out).mono ?_); rintro e w2 ⟨rfl, hb2⟩; have z2 := (hb2.block w.heap.size l1).trans Z1.out; have HB2 := Lib.hid (HB1.out.trans (hb2.mono HB1.out.size)); clear q1 f1 l1; have l2 := (Array.getElem?_eq_some_iff.1 z2).1; have q2 := fun o => cell_of_heap z2 o; have f2 := fun o => froz_of_heap z2 o; have Z2 := Lib.hid z2; clear z2 hb2 Z1)
    | (refine wpAllocK rfl 26 rfl _ alloc07 ?_; (try dsimp only [Act.put]); (try simp only [List.setIfInBounds_toArray, List.set_cons_succ, List.set_cons_zero]); refine wpStoreK rfl 26 _ _ rfl w2.heap.size _ #[.slice aC nC cC, .slice aR nR cR, .slice aE nE cE, .int .u8 (wy : Nat)] rfl rfl ((heap_push _ _ _).trans (if_pos rfl)) size07 rfl (by simp [Value.oneCell']) ?_; intro V x5 hk5 hz5 hb5; have zb := (hk5 w.heap.size (by omega)).trans (((heap_push _ _ _).trans (if_neg (by omega))).trans Z2.out); have HBV := Lib.hid (HB2.out.trans (((balloc (brefl w2) _).trans hb5).mono HB2.out.size)); have hzV : V.heap.size = w2.heap.size + 1 := (by simpa using hz5); clear q2 f2; have ZB := Lib.hid zb; have ZX := Lib.hid x5; have q5 := fun o => cell_of_heap x5 o; have f5 := fun o => froz_of_heap x5 o; have qb := fun o => cell_of_heap zb o; have fb := fun o => froz_of_heap zb o; have HZV := Lib.hid hzV; have lb := (Array.getElem?_eq_some_iff.1 zb).1; have l5 := (Array.getElem?_eq_some_iff.1 x5).1; clear x5 hk5 hz5 hb5 zb hzV; (try dsimp only [Act.put]); (try simp only [List.setIfInBounds_toArray, List.set_cons_succ, List.set_cons_zero]))
    | (at_builtin; refine wpApp rfl _ _ 24 rfl V.heap.size 60 (.agg #[.int .i64 0, .int .i64 0, .int .i64 0, .int .i64 0]) 4 32 Try.underlying24 info_entry rfl (by decide) _ 0 [] rfl (World.ownsRow_lit V #[] 0 (Nat.le_refl _) (by decide) rfl) aE nE cE (es.flatMap entC4) rfl HEL.out (HEN.out.below ((balloc HBV.out _))) HE0.out HE1.out (by unfold maxLen; omega) (by omega) (by simp) ?_; intro a5 c5 w5 hown5 k51 k52 k53 hb6 hg5; rw [Nat.zero_add] at *; rw [List.nil_append] at hown5; have HO5 := Lib.hid hown5; have HB6 := Lib.hid (show Below V.heap.size V w5 from (balloc (brefl V) _).trans hb6); have z5 := (HB6.out.block w2.heap.size l5).trans ZX.out; have zb := (HB6.out.block w.heap.size lb).trans ZB.out; clear q5 f5 l5 qb fb; have q5 := fun o => cell_of_heap z5 o; have f5 := fun o => froz_of_heap z5 o; have l5 := (Array.getElem?_eq_some_iff.1 z5).1; have qb := fun o => cell_of_heap zb o; have fb := fun o => froz_of_heap zb o; have Z5 := Lib.hid z5; have ZB5 := Lib.hid zb; clear hown5 hg5 k53 hb6 z5 zb))
  obtain ⟨X, hX⟩ : ∃ X, X = w5.setCell ⟨w2.heap.size, 2, none⟩ (.slice a5 nE c5) := ⟨_, rfl⟩
  have zX : X.heap[w2.heap.size]? = some (.cells #[.slice aC nC cC, .slice aR nR cR, .slice a5 nE c5, .int .u8 (wy : Nat)] 26 (0, 0)) := by rw [hX]; exact set_heap_at _ Z5.out
  have hb2w : w.heap.size < w2.heap.size := l2
  have zXb : X.heap[w.heap.size]? = some (.cells #[.slice aC nC cC, .slice aR nR cR, .slice aE nE cE, .int .u8 (wy : Nat), .slice aS nS cS] 29 (0, 0)) := by rw [hX]; exact (set_heap_other _ (by omega)).trans ZB5.out
  have hvz := HBV.out.size
  have HBX := Lib.hid (show Below w.heap.size w X from by
    rw [hX]
    exact (HBV.out.trans (HB6.out.mono hvz)).setCell (p := ⟨w2.heap.size, 2, none⟩) (Nat.le_of_lt hb2w) _)
  have HOX := Lib.hid (show X.ownsRow V.heap.size 60 4 (.slice a5 nE c5) nE (es.flatMap entC4) from by rw [hX]; exact set_owns (o := 2) _ HO5.out (own_neE HO5.out Z5.out (by decide)))
  have ZX5 := Lib.hid zX
  have ZXB := Lib.hid zXb
  have hgX : w2.heap.size < X.heap.size := (Array.getElem?_eq_some_iff.1 zX).1
  have hgV : w2.heap.size < V.heap.size := by have := HZV.out; omega
  have hXV : V.heap.size ≤ X.heap.size := by rw [hX]; simpa using HB6.out.size
  rw [← hX]
  clear hX zX zXb q5 f5 l5 qb fb lb l2 HO5 HB6 HB1 HB2 Z5 ZB5 ZB ZX HSP HSM HBV HZV
  generalize w2.heap.size = g5 at *
  generalize V.heap.size = gv5 at *
  go_loopw [35] (fun i wr => ∃ j : Nat, j ≤ nE ∧ i = .int .i64 (j : Nat) ∧ wr.ownsRow gv5 60 4 (.slice a5 nE c5) nE ((mapL (idleC which) es j).flatMap entC4) ∧ Below gv5 X wr) (fun i _ => nE - (Go.RowKit.intOf i).toNat)
  case atStart => exact ⟨0, Nat.zero_le _, rfl, by rw [HST.out]; exact HOX.out, Below.refl _ _⟩
  case round =>
    obtain ⟨j, hj, rfl, hx, hb⟩ := hrel
    rename World => wr
    have HX := Lib.hid hx
    have HB := Lib.hid hb
    have zr := (hb.block g5 hgV).trans ZX5.out
    have ZR := Lib.hid zr
    have qr := fun o => cell_of_heap zr o
    have fr := fun o => froz_of_heap zr o
    have lr := (Array.getElem?_eq_some_iff.1 zr).1
    clear hx hb zr
    by_cases hlt : j < nE
    · obtain ⟨e, he⟩ : ∃ e, es[j]? = some e := ⟨_, List.getElem?_eq_getElem (by rw [← HNE.out]; exact hlt)⟩
      cases which with
      | false =>
        have HXN := Lib.hid (show wr.ownsRow gv5 60 4 (.slice a5 nE c5) nE ((mapL (idleC false) es (j + 1)).flatMap entC4) from by have := HX.out; rw [mapL_id (idleC false) (fun _ => rfl)] at this ⊢; exact this)
        clear he
        go_wp2_with fail
        go_roundw
        case rel => exact ⟨j + 1, hlt, by go_num, HXN.out, HB.out⟩
        case measure => simp only [Go.RowKit.intOf]; omega
      | true =>
        have HMS := Lib.hid (mapL_set (idleC true) es j e he)
        have HGE := Lib.hid ((mapL_get (idleC true) es j).trans he)
        obtain ⟨gE, csE, uE, haE, hgE, hhE, hcE, _, hfE, hsE⟩ := row_at HX.out (j * 4 + 2) (by omega)
        subst haE
        obtain ⟨_, _, uF, haF, _, _, hcF, _, hfF, hsF⟩ := row_at (hsE (.int .i64 65535)) (j * 4 + 3) (by omega)
        injection haF with haF
        injection haF with haF
        subst haF
        obtain ⟨_, _, uG, haG, _, _, hcG, _, hfG, _⟩ := row_at HX.out (j * 4 + 3) (by omega)
        injection haG with haG
        injection haG with haG
        subst haG
        have hs' := hsF (.int .i64 65535)
        rw [entC4_set23 _ j _ _ e HGE.out, show (e.1, e.2.1, (65535 : Int), (65535 : Int)) = idleC true e from rfl, HMS.out] at hs'
        have HS := Lib.hid hs'
        have HBS := Lib.hid ((HB.out.setCell (p := ⟨gE, j * 4 + 2, none⟩) hgE (.int .i64 65535)).setCell (p := ⟨gE, j * 4 + 3, none⟩) hgE (.int .i64 65535))
        have lE := cell_lt hcE
        simp only at lE
        clear hs' hsE hsF hhE he hcF hfF
        go_wp2_with fail
        refine wp_region_tree (.step 0 (.step 1 (.step 2 (.step 3 (.step 4 (.step 5 (.step 6 (.step 7 (.step 8 (.step 9 (.step 10 (.step 11 .nil)))))))))))) (by kernel_rfl) (by kernel_rfl) (by kernel_rfl) (by kernel_rfl) (by intro _ _ d_ _ _ h_; cases d_ <;> first | exact h_ | (dsimp +zetaDelta only at h_ ⊢; exact h_)) (fun w' => ∃ p : Wld wr [gE], w' = p.val) (wld_start _ _) ?_
        have hG_ := @wldC1 wr gE
        (refine tree_quiet gtA (by rfl) (by rfl) (fun K_ hK_ => ?_); go_big_quiet_op; refine hK_ _ ?_; clear hK_ K_)
        (refine tree_quiet gtA (by rfl) (by rfl) (fun K_ hK_ => ?_); go_big_quiet_op; refine hK_ _ ?_; clear hK_ K_)
        (refine tree_quiet gtA (by rfl) (by rfl) (fun K_ hK_ => ?_); go_big_quiet_op; refine hK_ _ ?_; clear hK_ K_)
        (refine tree_quiet gtA (by rfl) (by rfl) (fun K_ hK_ => ?_); go_big_quiet_op; refine hK_ _ ?_; clear hK_ K_)
        (refine tree_quiet gtA (by rfl) (by rfl) (fun K_ hK_ => ?_); go_big_quiet_op; refine hK_ _ ?_; clear hK_ K_)
        (refine tree_quiet gtA (by rfl) (by rfl) (fun K_ hK_ => ?_); go_big_quiet_op; refine hK_ _ ?_; clear hK_ K_)
        (refine tree_quiet gtA (by rfl) (by rfl) (fun K_ hK_ => ?_); go_big_quiet_op; refine hK_ _ ?_; clear hK_ K_)
        (refine tree_quiet gtA (by rfl) (by rfl) (fun K_ hK_ => ?_); go_big_quiet_op; refine hK_ _ ?_; clear hK_ K_)
        (refine tree_run gtA (by rfl) (by rfl) (fun K_ hK_ => ?_); have HK_ := Lib.hid hK_; clear hK_; go_wp2_with (fail); refine HK_.out _ _ (wld_ofA) ?_; clear HK_)
        (refine tree_quiet gtA (by rfl) (by rfl) (fun K_ hK_ => ?_); go_big_quiet_op; refine hK_ _ ?_; clear hK_ K_)
        (refine tree_quiet gtA (by rfl) (by rfl) (fun K_ hK_ => ?_); go_big_quiet_op; refine hK_ _ ?_; clear hK_ K_)
        (refine tree_run gtA (by rfl) (by rfl) (fun K_ hK_ => ?_); have HK_ := Lib.hid hK_; clear hK_; go_wp2_with (fail); refine HK_.out _ _ (wld_ofA) ?_; clear HK_)
        refine tree_nil ?_
        clear hG_
        go_wp2_with fail
        go_roundw
        case rel => exact ⟨j + 1, hlt, by go_num, owns_below HS.out (bdrew1 (brefl _)) (Nat.le_refl _), HBS.out.drew⟩
        case measure => simp only [Go.RowKit.intOf]; omega
    · obtain rfl : nE = j := by omega
      have hxx := HX.out
      rw [HSE.out] at hxx
      have HEW := Lib.hid hxx
      have HBW := Lib.hid (HBX.out.trans (HB.out.mono (by have := HBX.out.size; omega)))
      have zrb := (HB.out.block w.heap.size (by omega)).trans ZXB.out
      have qrb := fun o => cell_of_heap zrb o
      have frb := fun o => froz_of_heap zrb o
      have lrb := (Array.getElem?_eq_some_iff.1 zrb).1
      clear hxx HX HB HBX HOX ZX5 ZXB HST HSE HEL HE1 HE0 HEN HNE hlt hj
      go_wp2_with fail
      go_loopw [8, 53] (fun v i wu => ∃ k : Nat, k ≤ nS ∧ i = .int .i64 (k : Nat) ∧ (∃ ax cx, v = .slice ax k cx ∧ wu.ownsRow wr.heap.size 62 1 (.slice ax k cx) k (nilV k)) ∧ Below wr.heap.size wr wu) (fun _ i _ => nS - (Go.RowKit.intOf i).toNat)
      case atStart => exact ⟨0, Nat.zero_le _, rfl, ⟨none, 0, rfl, World.ownsRow_nil _ _ _ _⟩, Below.refl _ _⟩
      case round =>
        obtain ⟨k, hk, rfl, ⟨ax, cx, rfl, hox⟩, hb⟩ := hrel
        rename World => wu
        have HOX := Lib.hid hox
        have HB := Lib.hid hb
        have hzu := hb.size
        clear hox hb
        by_cases hlt : k < nS
        · go_wp2_with (at_builtin; refine wpApp rfl _ _ 27 rfl wr.heap.size 62 (.slice none 0 0) 1 24 Try.underlying27 info_u16s rfl (by decide) _ k (nilV k) rfl (owns_below HOX.out (balloc (brefl wu) _) (Nat.le_refl _)) (some ⟨wu.heap.size, 0, none⟩) 1 1 (nilV 1) rfl (by rfl) (has_alloc wu _ _) (fun h => by cases h) (by intro u hu; simp [nilV] at hu; subst hu; rfl) (by unfold maxLen; omega) (by omega) (by simp; omega) ?_; intro a8 c8 w8 ho8 k81 k82 k83 hb8 hg8; have HO8 := Lib.hid ho8; have HB8 := Lib.hid ((HB.out.alloc HB.out.size _).trans hb8); clear ho8 hb8 hg8)
          go_roundw
          case rel =>
            refine ⟨k + 1, hlt, by go_num, ⟨a8, c8, rfl, ?_⟩, HB8.out⟩
            have := HO8.out
            rwa [show nilV k ++ nilV 1 = nilV (k + 1) from nilV_snoc k] at this
          case measure => simp [Go.RowKit.intOf]; omega
        · obtain rfl : nS = k := by omega
          have z5 := (HB.out.block g5 lr).trans ZR.out
          have Z5 := Lib.hid z5
          have q5 := fun o => cell_of_heap z5 o
          have f5 := fun o => froz_of_heap z5 o
          have l5 := (Array.getElem?_eq_some_iff.1 z5).1
          have HN := Lib.hid (has_of_owns HOX.out)
          have HE := Lib.hid ((has_of_owns HEW.out).below HB.out)
          have HBU := Lib.hid (HBW.out.trans (HB.out.mono HBW.out.size))
          clear z5 qr fr lr qrb frb lrb zrb ZR HB HBW HOX HEW
          go_wp2_with (go_at_call 14; (with_reducible refine (HWR.out wu HBU.out a5 c5 HE.out _ _ HN.out).mono ?_); rintro e w6 ⟨a6, c6, rfl, hown6, k61, k62, k63, hb6⟩; have HH6 := Lib.hid (has_of_owns hown6); have HB6 := Lib.hid (HBU.out.trans (hb6.mono HBU.out.size)); have z6 := (hb6.block g5 l5).trans Z5.out; have Z6 := Lib.hid z6; clear q5 f5 l5; have q6 := fun o => cell_of_heap z6 o; have f6 := fun o => froz_of_heap z6 o; have l6 := (Array.getElem?_eq_some_iff.1 z6).1; clear hown6 hb6 z6)
          -- TAIL
          by_cases hok : ∃ rs S qs, COk bs 40 rs S qs
          case neg =>
            have hno : ∀ rs S qs, ¬ COk bs 40 rs S qs := fun rs S qs h => hok ⟨rs, S, qs, h⟩
            have HRD := Lib.hid (fun a c W (hW : Has W a (bytesV bs)) (h1 : nB ≤ c) (h2 : c ≤ maxLen) => cread_none a nB c bs 40 40 rfl W hW HL.out h1 h2 (by decide) (by decide) hno)
            have HRF := Lib.hid (fun a c W (hW : Has W a (bytesV bs)) (h1 : nB ≤ c) (h2 : c ≤ maxLen) => refcread_no a nB c bs 40 40 rfl W hW HL.out h1 h2 hn2 (by decide) (by decide) hno)
            clear hok hno HID
            refine (HRD.out _ _ _ HH6.out k61 k62).mono ?_
            rintro e w7 ⟨rfl, hb7⟩
            have HH7 := Lib.hid (HH6.out.below hb7)
            have HB7 := Lib.hid (HB6.out.trans (hb7.mono HB6.out.size))
            clear hb7
            go_wp2_with (go_at_call 16; (with_reducible refine (HRF.out _ _ _ HH7.out k61 k62).mono ?_); rintro e w8 ⟨⟨a0, n0, c0, i1, i2, i3, i4, i5, i6, a7, n7, c7, a8, n8, c8, a9, n9, c9, rfl⟩, hb8⟩; have HB8 := Lib.hid (HB7.out.trans (hb8.mono HB7.out.size)); clear hb8)
            go_ret
            exact ⟨rfl, HB8.out.alloc HB8.out.size _⟩
          obtain ⟨rs, S, qs, hok⟩ := hok
          have HRD := Lib.hid (fun a c W (hW : Has W a (bytesV bs)) (h1 : nB ≤ c) (h2 : c ≤ maxLen) => cread_some a nB c bs 40 40 rfl rs S qs W hW HL.out h1 h2 (by decide) (by decide) hok)
          have HRF := Lib.hid (fun a c W (hW : Has W a (bytesV bs)) (h1 : nB ≤ c) (h2 : c ≤ maxLen) => refcread_yes a nB c bs 40 40 rfl rs S qs W hW HL.out h1 h2 hn2 (by decide) (by decide) hok)
          unfold mrefV mrefA at HRF
          rw [show ((2 : Nat) : Int) = 2 from rfl] at HRF
          simp only [List.push_toArray, List.cons_append, List.nil_append] at HRF
          by_cases hA : which = true ∧ nE < needE bs S
          case pos =>
            obtain ⟨rfl, hA⟩ := hA
            clear HID HWR hok
            generalize num bs 0 4 = P0 at *
            generalize num bs 4 4 = P4 at *
            generalize num bs 8 4 = P8 at *
            generalize num bs 12 4 = P12 at *
            generalize needE bs S = NE at *
            have d1 : decide ((nE : Int) < (NE : Int)) = true := by simp; omega
            refine (HRD.out _ _ _ HH6.out k61 k62).mono ?_
            rintro e w7 ⟨gt, rfl, _, hb7⟩
            have HH7 := Lib.hid (HH6.out.below hb7)
            have HB7 := Lib.hid (HB6.out.trans (hb7.mono HB6.out.size))
            have Z7 := Lib.hid ((hb7.block g5 l6).trans Z6.out)
            have l7 := (Array.getElem?_eq_some_iff.1 Z7.out).1
            clear hb7 q6 f6 l6
            go_wp2_with (go_at_call 16; (with_reducible refine (HRF.out _ _ _ HH7.out k61 k62).mono ?_); rintro e w8 ⟨a8, c8, aS8, cS8, subs, _, rfl, _, _, _, hb8⟩; have HB8 := Lib.hid (HB7.out.trans (hb8.mono HB7.out.size)); have z8 := (hb8.block g5 l7).trans Z7.out; have q8 := fun o => cell_of_heap z8 o; have f8 := fun o => froz_of_heap z8 o; have l8 := (Array.getElem?_eq_some_iff.1 z8).1; clear hb8 z8)
            go_ret
            exact ⟨rfl, HB8.out.alloc HB8.out.size _⟩
          have hL := HID.out rs S qs hok (fun h => Nat.le_of_not_lt fun h2 => hA ⟨h, h2⟩) (newG ids)
          have HRUN := Lib.hid (fun (Bm gt gl : Nat) (a : Option Addr) (c : Nat) (W : World) (hT : CIs Bm gt bs rs S qs W) (hG : GIs w.heap.size gl a c (newG ids) W) (hB : w.heap.size ≤ W.heap.size) => crun_any Bm gt bs 40 rs S qs w.heap.size gl a c (newG ids) W hT hok (by decide) (by decide) hG hB (newG_idsC HIW.out) (by rw [newG_length, HIL.out]; omega))
          have hnl : (newG ids).length = nI := by rw [newG_length]; exact HIL.out
          have HRR := Lib.hid (fun a c a' c' aS cS (subs : List SubD) al cl W (hq : subs.map SubD.rs = qs) (hsh : ∀ i s, subs[i]? = some s → SubHere a nB c bs 40 i s) (h : MRf a nB c bs 40 2 rs S a' W) (h1 : SubsIs 40 aS subs W) (h2 : Has W al (gv (newG ids))) (h3 : al = none → cl = 0) => by
            have hlk : lkS subs = lkC bs qs := by rw [← hq]; exact lkS_lkC hsh (by decide)
            have hsl : subs.length = qs.length := by rw [← hq, List.length_map]
            have := refctx_any a nB c bs 40 rs S a' c' aS subs.length cS subs al nI cl (newG ids) W h h1 rfl (by rw [hsl, hok.len]; exact cntC_65 _ _) (fun j hj => by rw [hsl, hok.len]; exact cntC_in bs hj) (by rw [hlk]; exact (hok.fitC (by decide)).le) h2 hnl h3 (newG_idsC HIW.out) (by omega)
            rw [hlk] at this
            exact this)
          have HNW := Lib.hid (fun W (hW : Below w.heap.size w W) => refNewG_any aI nI cI ids W (HI.out.below hW) HIL.out (by omega))
          have HGN := Lib.hid (fun W (hW : Below w.heap.size w W) => gnew_any aI nI cI ids W (HI.out.below hW) HIL.out (by omega))
          generalize ctxD bs rs (lkC bs qs) (newG ids) = R at *
          obtain ⟨⟨L, r1⟩, r3, r4⟩ := R
          simp only at hL HRUN HRR
          subst hL
          unfold mrefV mrefA at HRR
          rw [show ((2 : Nat) : Int) = 2 from rfl] at HRR
          simp only [List.push_toArray, List.cons_append, List.nil_append] at HRR
          generalize newG ids = L at *
          have HLN := Lib.hid hnl
          clear hok HID HWR HI hnl
          generalize num bs 0 4 = P0 at *
          generalize num bs 4 4 = P4 at *
          generalize num bs 8 4 = P8 at *
          generalize num bs 12 4 = P12 at *
          generalize needE bs S = NE at *
          generalize rs.length = LR at *
          cases which with
          | false =>
            clear hA
            refine (HRD.out _ _ _ HH6.out k61 k62).mono ?_
            rintro e w7 ⟨gt, rfl, hT, hb7⟩
            have HT7 := Lib.hid hT
            have HH7 := Lib.hid (HH6.out.below hb7)
            have HB7 := Lib.hid (HB6.out.trans (hb7.mono HB6.out.size))
            have Z7 := Lib.hid ((hb7.block g5 l6).trans Z6.out)
            have l7 := (Array.getElem?_eq_some_iff.1 Z7.out).1
            clear hb7 q6 f6 l6 hT
            go_wp2_with (go_at_call 16; (with_reducible refine (HRF.out _ _ _ HH7.out k61 k62).mono ?_); rintro e w8 ⟨a5', c5', aS5, cS5, subs, hq5, rfl, hM5, hS5, hH5, hb8⟩; have HM5 := Lib.hid hM5; have HS5 := Lib.hid hS5; have HQ5 := Lib.hid hq5; have HH5 := Lib.hid hH5; have HT8 := Lib.hid (HT7.out.below hb8); have HB8 := Lib.hid (HB7.out.trans (hb8.mono HB7.out.size)); have z8 := (hb8.block g5 l7).trans Z7.out; have q8 := fun o => cell_of_heap z8 o; have f8 := fun o => froz_of_heap z8 o; have l8 := (Array.getElem?_eq_some_iff.1 z8).1; have Z8 := Lib.hid z8; clear hM5 hS5 hq5 hH5 hb8 z8)
            have HRR5 := Lib.hid (fun al cl W (h : MRf a6 nB c6 bs 40 2 rs S a5' W) (h1 : SubsIs 40 aS5 subs W) h2 h3 => HRR.out a6 c6 a5' c5' aS5 cS5 subs al cl W HQ5.out HH5.out h h1 h2 h3)
            clear HRR q8 f8
            generalize adv a6 c6 P4 = A4 at *
            generalize subs.length = LS at *
            obtain ⟨V, hV⟩ : ∃ V, V = w8.alloc (Obj.cells #[.slice a6 nB c6, .int .i64 (P0 : Nat), .int .i64 (P8 : Nat), .int .i64 (P12 : Nat), .int .i64 (S : Nat), .int .i64 (NE : Nat), .int .i64 2, .slice A4 (nB - P4) (c6 - P4), .slice a5' LR c5', .slice aS5 LS cS5] 45) := ⟨_, rfl⟩
            have hbV : Below w8.heap.size w8 V := by rw [hV]; exact balloc (brefl w8) _
            have x8 : V.heap[w8.heap.size]? = some (.cells #[.slice a6 nB c6, .int .i64 (P0 : Nat), .int .i64 (P8 : Nat), .int .i64 (P12 : Nat), .int .i64 (S : Nat), .int .i64 (NE : Nat), .int .i64 2, .slice A4 (nB - P4) (c6 - P4), .slice a5' LR c5', .slice aS5 LS cS5] 45 (0, 0)) := by rw [hV]; exact (heap_push _ _ _).trans (if_pos rfl)
            rw [← hV]
            have HBV := Lib.hid (HB8.out.trans (hbV.mono HB8.out.size))
            have HTV := Lib.hid (HT8.out.below hbV)
            have HMV := Lib.hid (HM5.out.below hbV)
            have HSV := Lib.hid (HS5.out.below hbV)
            have X8 := Lib.hid x8
            have ZV := Lib.hid ((hbV.block g5 l8).trans Z8.out)
            have lV := (Array.getElem?_eq_some_iff.1 x8).1
            have lV5 := (Array.getElem?_eq_some_iff.1 ZV.out).1
            clear hV hbV x8 l8
            refine (HGN.out V HBV.out).mono ?_
            rintro e w9 ⟨gl, a9, c9, rfl, hG, hgl, hb9⟩
            have HT9 := Lib.hid (HTV.out.below hb9)
            have HM9 := Lib.hid (HMV.out.below hb9)
            have HS9 := Lib.hid (HSV.out.below hb9)
            have HB9 := Lib.hid (HBV.out.trans (hb9.mono HBV.out.size))
            have HG9 := Lib.hid (hG.mono HBV.out.size)
            have HLT := Lib.hid (fun k hk => (hG.rowIn k hk).1)
            have Y9 := Lib.hid ((hb9.block _ lV).trans X8.out)
            have ZP9 := Lib.hid ((hb9.block _ lV5).trans ZV.out)
            have HZ9 := Lib.hid hb9.size
            clear hG hb9 hgl lV lV5
            go_wp2_with (go_at_call 18; (with_reducible refine (HRUN.out _ _ _ _ _ _ HT9.out HG9.out HB9.out.size).mono ?_); rintro e w10 ⟨rfl, ⟨a10, c10, hG, _⟩, hk10⟩; have HG10 := Lib.hid hG; have HK10 := Lib.hid hk10; have HB10 := Lib.hid (HB9.out.trans hk10.below); clear hG hk10)
            have HKO := HK10.out.kepO
            have hvz := HBV.out.size
            have h9z := HB9.out.size
            have hown10 : ∀ k t, k < V.heap.size → ¬ ownA (a9.map (·.block)) (w9.heap.size + 1 + 1) k t := fun k t hk h => by
              rcases h with ⟨_, h⟩ | ⟨_, h⟩
              · have := HLT.out k h; omega
              · have := HZ9.out; omega
            have HM10 := Lib.hid (HMV.out.keptLt HM9.out HKO hown10)
            have HS10 := Lib.hid (HSV.out.keptLt HS9.out HKO hown10)
            have x10 := (HKO.2 _ _ _ _ Y9.out (ownA_no (by decide) (by decide) _)).trans Y9.out
            have z10 := (HKO.2 _ _ _ _ ZP9.out (ownA_no (by decide) (by decide) _)).trans ZP9.out
            have X10 := Lib.hid x10
            have Z10 := Lib.hid z10
            have q10 := fun o => cell_of_heap x10 o
            have f10 := fun o => froz_of_heap x10 o
            have l10 := (Array.getElem?_eq_some_iff.1 x10).1
            have HRR10 := Lib.hid (fun W (hW : Below w10.heap.size w10 W) al cl h2 h3 => HRR5.out al cl W (HM10.out.below hW) (HS10.out.below hW) h2 h3)
            have HNW10 := Lib.hid (fun W (hW : Below w10.heap.size w10 W) => HNW.out W (HB10.out.trans (hW.mono HB10.out.size)))
            clear HKO x10 z10 HRR5 hvz h9z hown10
            refine wp_region_tree (.step 0 (.step 1 (.step 2 (.narrow (.step 3 (.narrow (.step 4 (.step 5 (.step 6 (.step 7 (.step 8 .nil))))))))))) (by kernel_rfl) (by kernel_rfl) (by kernel_rfl) (by kernel_rfl) (by intro _ _ d_ _ _ h_; cases d_ <;> first | exact h_ | (dsimp +zetaDelta only at h_ ⊢; exact h_)) (fun w' => ∃ p : Wld w10 [], w' = p.val) (wld_start _ _) ?_
            have hG_ := @wldC w10
            (refine tree_quiet gtA (by rfl) (by rfl) (fun K_ hK_ => ?_); go_big_quiet_op; refine hK_ _ ?_; clear hK_ K_)
            (refine tree_quiet gtA (by rfl) (by rfl) (fun K_ hK_ => ?_); go_big_quiet_op; refine hK_ _ ?_; clear hK_ K_)
            (refine tree_run gtA (by rfl) (by rfl) (fun K_ hK_ => ?_); have HK_ := Lib.hid hK_; clear hK_; go_wp2_with (first | (go_at_call 20; (with_reducible refine (HNW10.out _ (by exact blw)).mono ?_); rintro e w11 ⟨a11, c11, rfl, ho11, hb11⟩; have HH11 := Lib.hid (has_of_owns ho11); have HA11 := Lib.hid (owns_slice ho11); have h11z := hb11.size; clear ho11) | (go_at_call 19; (with_reducible refine (HRR10.out w11 (by exact blw) a11 c11 (by exact HH11.out) (by obtain ⟨_, _, e, _, _, h3⟩ := HA11.out; injection e with e1 e2 e3; subst e1 e3; exact h3)).mono ?_); rintro e w12 ⟨a12, c12, rfl, hh12, hb12⟩; have HH12 := Lib.hid hh12; have h12z := hb12.size; clear hh12)); refine HK_.out _ _ (wld_ofA) ?_; clear HK_)
            refine tree_move (by repeat (first | with_reducible exact same_below (brefl _) | with_reducible exact same_below (bdrew1 (brefl _)) | with_reducible assumption | with_reducible refine same_drew ?_ | (with_reducible refine same_set ?_ (by first | (left; simp; done) | (right; simp; done) | (right; simp; omega)) _) | with_reducible refine same_then ?_ (by assumption) | with_reducible refine same_alloc ?_ _ | exact same_below (brefl _) | exact same_realloc (by simp) | exact same_below (bdrew1 (brefl _)) | assumption | refine same_drew ?_ | refine same_then ?_ (by assumption) | refine same_alloc ?_ _ | (refine same_set ?_ (by first | (left; simp; done) | (right; simp; done) | (right; simp; omega)) _))) ?_; clear hG_; intro hG_
            (refine tree_run gtA (by rfl) (by rfl) (fun K_ hK_ => ?_); have HK_ := Lib.hid hK_; clear hK_; go_wp2_with (first | (go_at_call 20; (with_reducible refine (HNW10.out _ (by exact blw)).mono ?_); rintro e w11 ⟨a11, c11, rfl, ho11, hb11⟩; have HH11 := Lib.hid (has_of_owns ho11); have HA11 := Lib.hid (owns_slice ho11); have h11z := hb11.size; clear ho11) | (go_at_call 19; (with_reducible refine (HRR10.out w11 (by exact blw) a11 c11 (by exact HH11.out) (by obtain ⟨_, _, e, _, _, h3⟩ := HA11.out; injection e with e1 e2 e3; subst e1 e3; exact h3)).mono ?_); rintro e w12 ⟨a12, c12, rfl, hh12, hb12⟩; have HH12 := Lib.hid hh12; have h12z := hb12.size; clear hh12)); refine HK_.out _ _ (wld_ofA) ?_; clear HK_)
            refine tree_move (by repeat (first | with_reducible exact same_below (brefl _) | with_reducible exact same_below (bdrew1 (brefl _)) | with_reducible assumption | with_reducible refine same_drew ?_ | (with_reducible refine same_set ?_ (by first | (left; simp; done) | (right; simp; done) | (right; simp; omega)) _) | with_reducible refine same_then ?_ (by assumption) | with_reducible refine same_alloc ?_ _ | exact same_below (brefl _) | exact same_realloc (by simp) | exact same_below (bdrew1 (brefl _)) | assumption | refine same_drew ?_ | refine same_then ?_ (by assumption) | refine same_alloc ?_ _ | (refine same_set ?_ (by first | (left; simp; done) | (right; simp; done) | (right; simp; omega)) _))) ?_; clear hG_; intro hG_
            (refine tree_quiet gtA (by rfl) (by rfl) (fun K_ hK_ => ?_); go_big_quiet_op; refine hK_ _ ?_; clear hK_ K_)
            (refine tree_quiet gtA (by rfl) (by rfl) (fun K_ hK_ => ?_); go_big_quiet_op; refine hK_ _ ?_; clear hK_ K_)
            (refine tree_quiet gtA (by rfl) (by rfl) (fun K_ hK_ => ?_); go_big_quiet_op; refine hK_ _ ?_; clear hK_ K_)
            (refine tree_quiet gtA (by rfl) (by rfl) (fun K_ hK_ => ?_); go_big_quiet_op; refine hK_ _ ?_; clear hK_ K_)
            (refine tree_quiet gtA (by rfl) (by rfl) (fun K_ hK_ => ?_); go_big_quiet_op; refine hK_ _ ?_; clear hK_ K_)
            refine tree_nil ?_
            clear hG_
            have hb10 : Below w10.heap.size w10 w12 := (by exact blw)
            have HG12 := Lib.hid (HG10.out.below hb10)
            have HB12 := Lib.hid (HB10.out.trans (hb10.mono HB10.out.size))
            have x12 := (hb10.block _ l10).trans X10.out
            have z12 := (hb10.block g5 (Array.getElem?_eq_some_iff.1 Z10.out).1).trans Z10.out
            have q12 := fun o => cell_of_heap x12 o
            have f12 := fun o => froz_of_heap x12 o
            have l12 := (Array.getElem?_eq_some_iff.1 x12).1
            have q13 := fun o => cell_of_heap z12 o
            have f13 := fun o => froz_of_heap z12 o
            have l13 := (Array.getElem?_eq_some_iff.1 z12).1
            clear hb10 hb11 hb12 q10 f10 l10 x12 z12 h11z h12z
            have HGL := Lib.hid (fun W (hW : Below w12.heap.size w12 W) => show Calls Try.prog 21 #[.pointer (some ⟨gl, 0, none⟩)] W fun e w' => ∃ a' c', e = .returned (.slice a' nI c') ∧ w'.ownsRow W.heap.size 57 2 (.slice a' nI c') nI (gv L) ∧ nI ≤ c' ∧ c' ≤ maxLen ∧ (a' = none → c' = 0) ∧ Below W.heap.size W w' from HLN.out ▸ gglyphs_any w.heap.size gl a10 c10 L W (HG12.out.below hW) (by rw [HLN.out]; omega))
            by_cases c1 : NE ≤ nE
            case neg =>
              have d3 : decide ((NE : Int) ≤ (nE : Int)) = false := by simp; omega
              go_wp2_with (first
                | (go_at_call 21; (with_reducible refine (HGL.out w12 (brefl _)).mono ?_); rintro e w14 ⟨a14, c14, rfl, ho, _, _, _, hb14⟩; have HH14 := Lib.hid (has_of_owns ho); have HHL := Lib.hid (HH12.out.below hb14); have HB14 := Lib.hid (HB12.out.trans (hb14.mono HB12.out.size)); clear ho hb14)
                | (go_at_call 22; (with_reducible refine (refSameG_any a14 a12 nI c14 nI c12 L L w14 HH14.out HLN.out HHL.out HLN.out (by omega) (by omega)).mono ?_); rintro e w15 ⟨rfl, hb15⟩; rw [decide_eq_true rfl]; have HB15 := Lib.hid (HB14.out.trans (hb15.mono HB14.out.size)); clear hb15))
              go_ret
              exact ⟨rfl, HB15.out⟩
            have d3 : decide ((NE : Int) ≤ (nE : Int)) = true := by simp; omega
            by_cases c2 : S ≤ nR
            case neg =>
              have d4 : decide ((S : Int) ≤ (nR : Int)) = false := by simp; omega
              go_wp2_with (first
                | (go_at_call 21; (with_reducible refine (HGL.out w12 (brefl _)).mono ?_); rintro e w14 ⟨a14, c14, rfl, ho, _, _, _, hb14⟩; have HH14 := Lib.hid (has_of_owns ho); have HHL := Lib.hid (HH12.out.below hb14); have HB14 := Lib.hid (HB12.out.trans (hb14.mono HB12.out.size)); clear ho hb14)
                | (go_at_call 22; (with_reducible refine (refSameG_any a14 a12 nI c14 nI c12 L L w14 HH14.out HLN.out HHL.out HLN.out (by omega) (by omega)).mono ?_); rintro e w15 ⟨rfl, hb15⟩; rw [decide_eq_true rfl]; have HB15 := Lib.hid (HB14.out.trans (hb15.mono HB14.out.size)); clear hb15))
              go_ret
              exact ⟨rfl, HB15.out⟩
            have d4 : decide ((S : Int) ≤ (nR : Int)) = true := by simp; omega
            go_wp2_with (first
              | (go_at_call 20; (with_reducible refine (HNW.out w12 HB12.out).mono ?_); rintro e w13 ⟨a13, c13, rfl, ho, hb13⟩; have HH13 := Lib.hid (has_of_owns ho); have HB13 := Lib.hid (HB12.out.trans (hb13.mono HB12.out.size)); have HB23 := Lib.hid hb13; clear ho hb13)
              | (go_at_call 21; (with_reducible refine (HGL.out w13 HB23.out).mono ?_); rintro e w14 ⟨a14, c14, rfl, ho, _, _, _, hb14⟩; have HH14 := Lib.hid (has_of_owns ho); have HHL := Lib.hid (HH13.out.below hb14); have HB14 := Lib.hid (HB13.out.trans (hb14.mono HB13.out.size)); clear ho hb14)
              | (go_at_call 22; (with_reducible refine (refSameG_any a14 a13 nI c14 nI c13 L L w14 HH14.out HLN.out HHL.out HLN.out (by omega) (by omega)).mono ?_); rintro e w15 ⟨rfl, hb15⟩; rw [decide_eq_true rfl]; have HB15 := Lib.hid (HB14.out.trans (hb15.mono HB14.out.size)); clear hb15))
            go_ret
            exact ⟨rfl, HB15.out⟩
          | true =>
            have h3 : ¬ nE < NE := fun h2 => hA ⟨rfl, h2⟩
            have d1 : decide ((nE : Int) < (NE : Int)) = false := by simp; omega
            clear hA
            refine (HRD.out _ _ _ HH6.out k61 k62).mono ?_
            rintro e w7 ⟨gt, rfl, hT, hb7⟩
            have HT7 := Lib.hid hT
            have HH7 := Lib.hid (HH6.out.below hb7)
            have HB7 := Lib.hid (HB6.out.trans (hb7.mono HB6.out.size))
            have Z7 := Lib.hid ((hb7.block g5 l6).trans Z6.out)
            have l7 := (Array.getElem?_eq_some_iff.1 Z7.out).1
            clear hb7 q6 f6 l6 hT
            go_wp2_with (go_at_call 16; (with_reducible refine (HRF.out _ _ _ HH7.out k61 k62).mono ?_); rintro e w8 ⟨a5', c5', aS5, cS5, subs, hq5, rfl, hM5, hS5, hH5, hb8⟩; have HM5 := Lib.hid hM5; have HS5 := Lib.hid hS5; have HQ5 := Lib.hid hq5; have HH5 := Lib.hid hH5; have HT8 := Lib.hid (HT7.out.below hb8); have HB8 := Lib.hid (HB7.out.trans (hb8.mono HB7.out.size)); have z8 := (hb8.block g5 l7).trans Z7.out; have q8 := fun o => cell_of_heap z8 o; have f8 := fun o => froz_of_heap z8 o; have l8 := (Array.getElem?_eq_some_iff.1 z8).1; have Z8 := Lib.hid z8; clear hM5 hS5 hq5 hH5 hb8 z8)
            have HRR5 := Lib.hid (fun al cl W (h : MRf a6 nB c6 bs 40 2 rs S a5' W) (h1 : SubsIs 40 aS5 subs W) h2 h3 => HRR.out a6 c6 a5' c5' aS5 cS5 subs al cl W HQ5.out HH5.out h h1 h2 h3)
            clear HRR q8 f8
            generalize adv a6 c6 P4 = A4 at *
            generalize subs.length = LS at *
            obtain ⟨V, hV⟩ : ∃ V, V = w8.alloc (Obj.cells #[.slice a6 nB c6, .int .i64 (P0 : Nat), .int .i64 (P8 : Nat), .int .i64 (P12 : Nat), .int .i64 (S : Nat), .int .i64 (NE : Nat), .int .i64 2, .slice A4 (nB - P4) (c6 - P4), .slice a5' LR c5', .slice aS5 LS cS5] 45) := ⟨_, rfl⟩
            have hbV : Below w8.heap.size w8 V := by rw [hV]; exact balloc (brefl w8) _
            have x8 : V.heap[w8.heap.size]? = some (.cells #[.slice a6 nB c6, .int .i64 (P0 : Nat), .int .i64 (P8 : Nat), .int .i64 (P12 : Nat), .int .i64 (S : Nat), .int .i64 (NE : Nat), .int .i64 2, .slice A4 (nB - P4) (c6 - P4), .slice a5' LR c5', .slice aS5 LS cS5] 45 (0, 0)) := by rw [hV]; exact (heap_push _ _ _).trans (if_pos rfl)
            rw [← hV]
            have HBV := Lib.hid (HB8.out.trans (hbV.mono HB8.out.size))
            have HTV := Lib.hid (HT8.out.below hbV)
            have HMV := Lib.hid (HM5.out.below hbV)
            have HSV := Lib.hid (HS5.out.below hbV)
            have X8 := Lib.hid x8
            have ZV := Lib.hid ((hbV.block g5 l8).trans Z8.out)
            have lV := (Array.getElem?_eq_some_iff.1 x8).1
            have lV5 := (Array.getElem?_eq_some_iff.1 ZV.out).1
            clear hV hbV x8 l8
            refine (HGN.out V HBV.out).mono ?_
            rintro e w9 ⟨gl, a9, c9, rfl, hG, hgl, hb9⟩
            have HT9 := Lib.hid (HTV.out.below hb9)
            have HM9 := Lib.hid (HMV.out.below hb9)
            have HS9 := Lib.hid (HSV.out.below hb9)
            have HB9 := Lib.hid (HBV.out.trans (hb9.mono HBV.out.size))
            have HG9 := Lib.hid (hG.mono HBV.out.size)
            have HLT := Lib.hid (fun k hk => (hG.rowIn k hk).1)
            have Y9 := Lib.hid ((hb9.block _ lV).trans X8.out)
            have ZP9 := Lib.hid ((hb9.block _ lV5).trans ZV.out)
            have HZ9 := Lib.hid hb9.size
            clear hG hb9 hgl lV lV5
            go_wp2_with (go_at_call 18; (with_reducible refine (HRUN.out _ _ _ _ _ _ HT9.out HG9.out HB9.out.size).mono ?_); rintro e w10 ⟨rfl, ⟨a10, c10, hG, _⟩, hk10⟩; have HG10 := Lib.hid hG; have HK10 := Lib.hid hk10; have HB10 := Lib.hid (HB9.out.trans hk10.below); clear hG hk10)
            have HKO := HK10.out.kepO
            have hvz := HBV.out.size
            have h9z := HB9.out.size
            have hown10 : ∀ k t, k < V.heap.size → ¬ ownA (a9.map (·.block)) (w9.heap.size + 1 + 1) k t := fun k t hk h => by
              rcases h with ⟨_, h⟩ | ⟨_, h⟩
              · have := HLT.out k h; omega
              · have := HZ9.out; omega
            have HM10 := Lib.hid (HMV.out.keptLt HM9.out HKO hown10)
            have HS10 := Lib.hid (HSV.out.keptLt HS9.out HKO hown10)
            have x10 := (HKO.2 _ _ _ _ Y9.out (ownA_no (by decide) (by decide) _)).trans Y9.out
            have z10 := (HKO.2 _ _ _ _ ZP9.out (ownA_no (by decide) (by decide) _)).trans ZP9.out
            have X10 := Lib.hid x10
            have Z10 := Lib.hid z10
            have q10 := fun o => cell_of_heap x10 o
            have f10 := fun o => froz_of_heap x10 o
            have l10 := (Array.getElem?_eq_some_iff.1 x10).1
            have HRR10 := Lib.hid (fun W (hW : Below w10.heap.size w10 W) al cl h2 h3 => HRR5.out al cl W (HM10.out.below hW) (HS10.out.below hW) h2 h3)
            have HNW10 := Lib.hid (fun W (hW : Below w10.heap.size w10 W) => HNW.out W (HB10.out.trans (hW.mono HB10.out.size)))
            clear HKO x10 z10 HRR5 hvz h9z hown10
            refine wp_region_tree (.step 0 (.step 1 (.step 2 (.narrow (.step 3 (.narrow (.step 4 (.step 5 (.step 6 (.step 7 (.step 8 .nil))))))))))) (by kernel_rfl) (by kernel_rfl) (by kernel_rfl) (by kernel_rfl) (by intro _ _ d_ _ _ h_; cases d_ <;> first | exact h_ | (dsimp +zetaDelta only at h_ ⊢; exact h_)) (fun w' => ∃ p : Wld w10 [], w' = p.val) (wld_start _ _) ?_
            have hG_ := @wldC w10
            (refine tree_quiet gtA (by rfl) (by rfl) (fun K_ hK_ => ?_); go_big_quiet_op; refine hK_ _ ?_; clear hK_ K_)
            (refine tree_quiet gtA (by rfl) (by rfl) (fun K_ hK_ => ?_); go_big_quiet_op; refine hK_ _ ?_; clear hK_ K_)
            (refine tree_run gtA (by rfl) (by rfl) (fun K_ hK_ => ?_); have HK_ := Lib.hid hK_; clear hK_; go_wp2_with (first | (go_at_call 20; (with_reducible refine (HNW10.out _ (by exact blw)).mono ?_); rintro e w11 ⟨a11, c11, rfl, ho11, hb11⟩; have HH11 := Lib.hid (has_of_owns ho11); have HA11 := Lib.hid (owns_slice ho11); have h11z := hb11.size; clear ho11) | (go_at_call 19; (with_reducible refine (HRR10.out w11 (by exact blw) a11 c11 (by exact HH11.out) (by obtain ⟨_, _, e, _, _, h3⟩ := HA11.out; injection e with e1 e2 e3; subst e1 e3; exact h3)).mono ?_); rintro e w12 ⟨a12, c12, rfl, hh12, hb12⟩; have HH12 := Lib.hid hh12; have h12z := hb12.size; clear hh12)); refine HK_.out _ _ (wld_ofA) ?_; clear HK_)
            refine tree_move (by repeat (first | with_reducible exact same_below (brefl _) | with_reducible exact same_below (bdrew1 (brefl _)) | with_reducible assumption | with_reducible refine same_drew ?_ | (with_reducible refine same_set ?_ (by first | (left; simp; done) | (right; simp; done) | (right; simp; omega)) _) | with_reducible refine same_then ?_ (by assumption) | with_reducible refine same_alloc ?_ _ | exact same_below (brefl _) | exact same_realloc (by simp) | exact same_below (bdrew1 (brefl _)) | assumption | refine same_drew ?_ | refine same_then ?_ (by assumption) | refine same_alloc ?_ _ | (refine same_set ?_ (by first | (left; simp; done) | (right; simp; done) | (right; simp; omega)) _))) ?_; clear hG_; intro hG_
            (refine tree_run gtA (by rfl) (by rfl) (fun K_ hK_ => ?_); have HK_ := Lib.hid hK_; clear hK_; go_wp2_with (first | (go_at_call 20; (with_reducible refine (HNW10.out _ (by exact blw)).mono ?_); rintro e w11 ⟨a11, c11, rfl, ho11, hb11⟩; have HH11 := Lib.hid (has_of_owns ho11); have HA11 := Lib.hid (owns_slice ho11); have h11z := hb11.size; clear ho11) | (go_at_call 19; (with_reducible refine (HRR10.out w11 (by exact blw) a11 c11 (by exact HH11.out) (by obtain ⟨_, _, e, _, _, h3⟩ := HA11.out; injection e with e1 e2 e3; subst e1 e3; exact h3)).mono ?_); rintro e w12 ⟨a12, c12, rfl, hh12, hb12⟩; have HH12 := Lib.hid hh12; have h12z := hb12.size; clear hh12)); refine HK_.out _ _ (wld_ofA) ?_; clear HK_)
            refine tree_move (by repeat (first | with_reducible exact same_below (brefl _) | with_reducible exact same_below (bdrew1 (brefl _)) | with_reducible assumption | with_reducible refine same_drew ?_ | (with_reducible refine same_set ?_ (by first | (left; simp; done) | (right; simp; done) | (right; simp; omega)) _) | with_reducible refine same_then ?_ (by assumption) | with_reducible refine same_alloc ?_ _ | exact same_below (brefl _) | exact same_realloc (by simp) | exact same_below (bdrew1 (brefl _)) | assumption | refine same_drew ?_ | refine same_then ?_ (by assumption) | refine same_alloc ?_ _ | (refine same_set ?_ (by first | (left; simp; done) | (right; simp; done) | (right; simp; omega)) _))) ?_; clear hG_; intro hG_
            (refine tree_quiet gtA (by rfl) (by rfl) (fun K_ hK_ => ?_); go_big_quiet_op; refine hK_ _ ?_; clear hK_ K_)
            (refine tree_quiet gtA (by rfl) (by rfl) (fun K_ hK_ => ?_); go_big_quiet_op; refine hK_ _ ?_; clear hK_ K_)
            (refine tree_quiet gtA (by rfl) (by rfl) (fun K_ hK_ => ?_); go_big_quiet_op; refine hK_ _ ?_; clear hK_ K_)
            (refine tree_quiet gtA (by rfl) (by rfl) (fun K_ hK_ => ?_); go_big_quiet_op; refine hK_ _ ?_; clear hK_ K_)
            (refine tree_quiet gtA (by rfl) (by rfl) (fun K_ hK_ => ?_); go_big_quiet_op; refine hK_ _ ?_; clear hK_ K_)
            refine tree_nil ?_
            clear hG_
            have hb10 : Below w10.heap.size w10 w12 := (by exact blw)
            have HG12 := Lib.hid (HG10.out.below hb10)
            have HB12 := Lib.hid (HB10.out.trans (hb10.mono HB10.out.size))
            have x12 := (hb10.block _ l10).trans X10.out
            have z12 := (hb10.block g5 (Array.getElem?_eq_some_iff.1 Z10.out).1).trans Z10.out
            have q12 := fun o => cell_of_heap x12 o
            have f12 := fun o => froz_of_heap x12 o
            have l12 := (Array.getElem?_eq_some_iff.1 x12).1
            have q13 := fun o => cell_of_heap z12 o
            have f13 := fun o => froz_of_heap z12 o
            have l13 := (Array.getElem?_eq_some_iff.1 z12).1
            clear hb10 hb11 hb12 q10 f10 l10 x12 z12 h11z h12z
            have HGL := Lib.hid (fun W (hW : Below w12.heap.size w12 W) => show Calls Try.prog 21 #[.pointer (some ⟨gl, 0, none⟩)] W fun e w' => ∃ a' c', e = .returned (.slice a' nI c') ∧ w'.ownsRow W.heap.size 57 2 (.slice a' nI c') nI (gv L) ∧ nI ≤ c' ∧ c' ≤ maxLen ∧ (a' = none → c' = 0) ∧ Below W.heap.size W w' from HLN.out ▸ gglyphs_any w.heap.size gl a10 c10 L W (HG12.out.below hW) (by rw [HLN.out]; omega))
            have c1 : NE ≤ nE := by omega
            have d3 : decide ((NE : Int) ≤ (nE : Int)) = true := by simp; omega
            by_cases c2 : S ≤ nR
            case neg =>
              have d4 : decide ((S : Int) ≤ (nR : Int)) = false := by simp; omega
              go_wp2_with (first
                | (go_at_call 21; (with_reducible refine (HGL.out w12 (brefl _)).mono ?_); rintro e w14 ⟨a14, c14, rfl, ho, _, _, _, hb14⟩; have HH14 := Lib.hid (has_of_owns ho); have HHL := Lib.hid (HH12.out.below hb14); have HB14 := Lib.hid (HB12.out.trans (hb14.mono HB12.out.size)); clear ho hb14)
                | (go_at_call 22; (with_reducible refine (refSameG_any a14 a12 nI c14 nI c12 L L w14 HH14.out HLN.out HHL.out HLN.out (by omega) (by omega)).mono ?_); rintro e w15 ⟨rfl, hb15⟩; rw [decide_eq_true rfl]; have HB15 := Lib.hid (HB14.out.trans (hb15.mono HB14.out.size)); clear hb15))
              go_ret
              exact ⟨rfl, HB15.out⟩
            have d4 : decide ((S : Int) ≤ (nR : Int)) = true := by simp; omega
            go_wp2_with (first
              | (go_at_call 20; (with_reducible refine (HNW.out w12 HB12.out).mono ?_); rintro e w13 ⟨a13, c13, rfl, ho, hb13⟩; have HH13 := Lib.hid (has_of_owns ho); have HB13 := Lib.hid (HB12.out.trans (hb13.mono HB12.out.size)); have HB23 := Lib.hid hb13; clear ho hb13)
              | (go_at_call 21; (with_reducible refine (HGL.out w13 HB23.out).mono ?_); rintro e w14 ⟨a14, c14, rfl, ho, _, _, _, hb14⟩; have HH14 := Lib.hid (has_of_owns ho); have HHL := Lib.hid (HH13.out.below hb14); have HB14 := Lib.hid (HB13.out.trans (hb14.mono HB13.out.size)); clear ho hb14)
              | (go_at_call 22; (with_reducible refine (refSameG_any a14 a13 nI c14 nI c13 L L w14 HH14.out HLN.out HHL.out HLN.out (by omega) (by omega)).mono ?_); rintro e w15 ⟨rfl, hb15⟩; rw [decide_eq_true rfl]; have HB15 := Lib.hid (HB14.out.trans (hb15.mono HB14.out.size)); clear hb15))
            go_ret
            exact ⟨rfl, HB15.out⟩

open Go.ChangeShapes Go.WideShapes Go.ChangeAt Go.RowKit
open Go.ChangeMaps (open_string shut_string)

set_option maxRecDepth 100000 in
theorem ctxIdle_walks (H : Type) (enc : TypeId × Value → H) : Walks H enc 4 [29, 30, 4] := by
  intro W base args ds p hval hA _
  obtain ⟨v0, vs0, d0, ds0, p0, q0, hargs, rfl, rfl, h0, r0⟩ := trodAll_cons hA
  obtain ⟨v1, vs1, d1, ds1, p1, q1, rfl, rfl, rfl, h1, r1⟩ := trodAll_cons r0
  obtain ⟨v2, vs2, d2, ds2, p2, q2, rfl, rfl, rfl, h2, r2⟩ := trodAll_cons r1
  obtain ⟨rfl, rfl, rfl⟩ := trodAll_nil r2
  obtain rfl : args = #[v0, v1, v2] := by cases args; simp_all
  obtain ⟨p, aC, aR, aE, rv, cC, cR, cE, aS, cS, subs, sv, rfl, hP, hw, hE0, hS, _, hm⟩ := open_plan15 (hval 0 29 v0 rfl rfl) h0
  obtain ⟨a, n, c, ids, rfl, hl, _, _, _, hi, hz⟩ := open_ids (hval 1 30 v1 rfl rfl) h1
  obtain ⟨f, rfl, _, _⟩ := open_bool Try.underlying4 (hval 2 4 v2 rfl rfl) h2
  exact ctxIdle_walk p aC aR aE rv cC cR cE aS cS subs sv a n c ids W hP hw hE0 hS hm hi hl hz f

set_option maxRecDepth 100000 in
theorem ctxIdle_lifted (os : Os) (started : os.Started) (H : Type) (enc : TypeId × Value → H) :
    ReturnsInHanded {} Try.checked os 4 .any (Rows.ctxIdleSpec.pre6 enc Try.prog Try.f4 Rows.ctxIdleRow.domain false) (Rows.ctxIdleSpec.post enc Try.prog Try.f4 false true false false) :=
  lift_law (s := Rows.ctxIdleSpec) (fn := Try.f4) started (by kernel_rfl) Try.func4
    (ChangeSpec.witness6 (enc := enc) (C := Try.checked) false ⟨#[], #[.agg #[.slice none 0 0, .slice none 0 0, .slice none 0 0, .int .u8 0, .slice none 0 0], .slice none 0 0, .bool false], []⟩ 8 (by kernel_rfl) (by kernel_rfl) (by kernel_rfl) (by kernel_rfl))
    rfl rfl (fun ds h => by match ds, h with | [d0, d1, d2], _ => rfl) (by intro t ht; simp [Try.params4] at ht; first | (subst ht; exact ⟨by kernel_rfl, of_decide_eq_true (by kernel_rfl)⟩) | (obtain rfl | rfl := ht <;> exact ⟨by kernel_rfl, of_decide_eq_true (by kernel_rfl)⟩) | (obtain rfl | rfl | rfl := ht <;> exact ⟨by kernel_rfl, of_decide_eq_true (by kernel_rfl)⟩) | (obtain rfl | rfl | rfl | rfl := ht <;> exact ⟨by kernel_rfl, of_decide_eq_true (by kernel_rfl)⟩))
    (by rw [Try.params4]; exact ctxIdle_walks H enc)
theorem ctxIdle_over : Rows.ctxIdleRow.holds Try.pinned (OpenSpec.ofChange Rows.ctxIdleSpec) :=
  OpenClaim.holds_of_wide 4 Try.f4 rfl rfl rfl rfl rfl rfl rfl ⟨rfl, rfl, rfl, rfl, rfl⟩ rfl rfl rfl rfl rfl (by kernel_rfl) Try.func4 (by kernel_rfl)
    (of_decide_eq_true (by kernel_rfl)) (by unfold Func.isWrapper; first | (rw [if_pos (by decide +kernel)]; kernel_rfl) | (rw [if_neg (by decide +kernel)]; exact ⟨rfl, rfl⟩))
    (fun os started H enc _ => ctxIdle_lifted os started H enc)
theorem ctxIdle_proved : Rows.CtxIdleSaid := ctxIdle_over
#print axioms ctxIdle_proved
end Go.Proofs.Ytcegoenlajkgfaa
