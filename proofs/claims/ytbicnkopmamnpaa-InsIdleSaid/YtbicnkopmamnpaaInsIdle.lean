
/- The walk of InsIdle. InsIdle returns true for every plan of a machine and list, and every line, and changes nothing: entries that name no glyphs to put leave a line as it is. No condition beside the row's own. -/
import Derived.Test.YtbicnkopmamnpaaJ01
import Derived.Test.YtbicnkopmamnpaaJ22
import Derived.Test.YtbicnkopmamnpaaJ24
import Derived.Test.YtbicnkopmamnpaaJ18
import Derived.Test.YtbicnkopmamnpaaJ23
import Derived.Test.YtbicnkopmamnpaaJ16
namespace Go.Proofs.Ytbicnkopmamnpaa
open Go.RowKit Go.Lib

theorem alloc18 (w : World) : (Instr.alloc 29 true (.tuple #[])).run Try.prog w = .ok (.pointer (some ⟨w.heap.size, 0, none⟩)) (w.alloc (.cells #[.slice none 0 0, .slice none 0 0, .slice none 0 0, .int .u8 0, .slice none 0 0] 29)) := by kernel_rfl
theorem size18 : (Try.prog.info? 29).map (·.size) = some 5 := by kernel_rfl
theorem ins_idle (p : PlanL) (list : List Nat) (hC : p.cls.length ≤ 40) (hR : p.rows.length ≤ 20) (hE : p.ents.length ≤ 40) {rs : List RP} {S : Nat} (hok : IOk (insB (p.idleC true) list) 40 rs S) (hN : needE (insB (p.idleC true) list) S ≤ p.ents.length) (li : List UInt8) (left : Nat) (l : List (Int × Int)) : (insD (insB (p.idleC true) list) rs li left l).1.1 = l ∧ (insD (insB (p.idleC true) list) rs li left l).1.2.2 = (0, false) := by
  have hn : (p.idleC true).n ≤ 11 := by unfold PlanL.n; omega
  have hm : (p.idleC true).rows.length * (p.idleC true).n ≤ 20 * 11 := Nat.mul_le_mul hR hn
  have hcl : (p.idleC true).cls.length ≤ 40 := hC
  refine insD_none hok.mok (fun j hj => ?_) li left l
  obtain ⟨e, he⟩ : ∃ e, p.ents[j]? = some e := ⟨_, List.getElem?_eq_getElem (by omega)⟩
  have := insB_entA (p.idleC true) list (by omega) j (Go.Proofs.Ytbicnkopmamnpaa.idleC true e) (by rw [PlanL.idleC, List.getElem?_map, he]; rfl)
  rw [this.1, this.2]
  exact ⟨rfl, rfl⟩
set_option maxRecDepth 100000 in
set_option maxHeartbeats 12800000 in
theorem insIdle_walk (p : PlanL) (aC aR aE : Option Addr) (rv : List Value) (cC cR cE : Nat) (aL : Option Addr) (cL : Nat) (list : List Nat) (aI : Option Addr) (nI cI : Nat) (ids : List Int) (w : World) (hP : PlanHas w p aC aR rv aE) (hw : ∀ e ∈ p.ents, wfI e.1 ∧ wfI e.2.1 ∧ wfI e.2.2.1 ∧ wfI e.2.2.2)
    (hS : Has w aL (u16V list)) (h16 : ∀ x ∈ list, x ≤ 65535) (hi : Has w aI (iv ids)) (hil : ids.length = nI) (hiw : ∀ z ∈ ids, -9223372036854775808 ≤ z ∧ z ≤ 9223372036854775807) (hE0 : aE = none → cE = 0) :
    Calls Try.prog 3 #[.agg #[.slice aC p.cls.length cC, .slice aR p.rows.length cR, .slice aE p.ents.length cE, .int .u8 (p.wide.toNat : Nat), .slice aL list.length cL], .slice aI nI cI] w fun e w' => e = .returned (.bool true) ∧ Below w.heap.size w w' := by
  have hAC := allocC
  have hAF := allocF
  have HSP := Lib.hid (fun W (_ : Below w.heap.size w W) => speaks18_any W)
  have hsm := fun W (_ : Below w.heap.size w W) => small18_any aC aR aE aL aI p.cls.length p.rows.length p.ents.length list.length nI cC cR cE cL cI (p.wide.toNat : Int) W
  have HI := Lib.hid hi
  have HIL := Lib.hid hil
  have HIW := Lib.hid hiw
  by_cases hs : Sm18 p.cls.length p.rows.length p.ents.length list.length nI
  case neg =>
    have HSM := Lib.hid (fun W (hW : Below w.heap.size w W) => (hsm W hW).mono (R' := fun e w' => e = .returned (.bool false) ∧ Below W.heap.size W w') (by
      rintro e w' ⟨⟨b, rfl, hb⟩, hb2⟩
      refine ⟨?_, hb2⟩
      cases b with
      | false => rfl
      | true => exact absurd (hb.1 rfl) hs))
    clear hE0 hsm hs hP hw hS h16 hi hil hiw
    generalize p.cls.length = nC at *
    generalize p.rows.length = nR at *
    generalize p.ents.length = nE at *
    generalize list.length = nL at *
    generalize (p.wide.toNat : Int) = wd at *
    go_enter Try.func3, Try.ntmps3
    go_wp2_with (first | (go_at_call 16; (with_reducible refine (HSP.out _ (by exact blw)).mono ?_); rintro e w1 ⟨rfl, hb1⟩; have h1c := bc hb1; have h1f := bf hb1; have h1z := hb1.size; try simp only [World.size_alloc, World.size_drew] at h1z) | (go_at_call 17; (with_reducible refine (HSM.out _ (by exact blw)).mono ?_); rintro e w2 ⟨rfl, hb2⟩; have h2c := bc hb2; have h2f := bf hb2; have h2z := hb2.size; try simp only [World.size_alloc, World.size_drew] at h2z))
    go_ret
    exact ⟨rfl, blw⟩
  have HSM := Lib.hid (fun W (hW : Below w.heap.size w W) => (hsm W hW).mono (R' := fun e w' => e = .returned (.bool true) ∧ Below W.heap.size W w') (by
    rintro e w' ⟨⟨b, rfl, hb⟩, hb2⟩
    refine ⟨?_, hb2⟩
    rw [hb.2 hs]))
  obtain ⟨hs1, hs2, hs3, hs4, hs7⟩ := hs
  have hn2 : (insB (p.idleC true) list).length ≤ 4000 := by
    have h1 := insB_length (p := p.idleC true) list
    have h2 := planL2 (p := p.idleC true)
    have h3 : (p.idleC true).n ≤ 11 := by unfold PlanL.n; omega
    have h4 : (p.idleC true).rows.length * (p.idleC true).n ≤ 220 := Nat.le_trans (Nat.mul_le_mul hs2 h3) (by decide)
    have h5 : (p.idleC true).cls.length ≤ 40 := hs1
    have h6 : (p.idleC true).ents.length = p.ents.length := List.length_map _
    omega
  have HID := Lib.hid (fun (rs : List RP) (S : Nat) hok hN li left l => ins_idle p list hs1 hs2 hs3 (rs := rs) (S := S) hok hN li left l)
  have HWR := Lib.hid (fun W (hW : Below w.heap.size w W) (a : Option Addr) (c : Nat) (hE : Has W a ((p.ents.map (idleC true)).flatMap entC4)) => by
    have hP2 := hP.below hW
    have := write18_any (p.idleC true) aC aR a rv cC cR c aL list.length cL list W ⟨hP2.cls, hP2.rows, hP2.rlen, hP2.row, hE⟩ (by show p.cls.length ≤ 1000; omega) (by show p.rows.length ≤ 1000; omega) (by simp only [PlanL.idleC, List.length_map]; omega) (idleC_wf true p.ents hw) (hS.below hW) rfl (by omega) h16
    rw [show (p.idleC true).ents.length = p.ents.length from by simp only [PlanL.idleC, List.length_map]] at this
    exact (show Calls Try.prog 19 #[.agg #[.slice aC p.cls.length cC, .slice aR p.rows.length cR, .slice a p.ents.length c, .int .u8 (p.wide.toNat : Nat), .slice aL list.length cL]] W fun e w' => ∃ a' c', e = .returned (.slice a' (insB (p.idleC true) list).length c') ∧ w'.ownsRow W.heap.size 5 1 (.slice a' (insB (p.idleC true) list).length c') (insB (p.idleC true) list).length (bytesV (insB (p.idleC true) list)) ∧ (insB (p.idleC true) list).length ≤ c' ∧ c' ≤ maxLen ∧ (a' = none → c' = 0) ∧ Below W.heap.size W w' from this))
  generalize hbs : insB (p.idleC true) list = bs at *
  obtain ⟨nB, hnB⟩ : ∃ nB, nB = bs.length := ⟨_, rfl⟩
  rw [← hnB] at HWR hn2
  have HL := Lib.hid hnB.symm
  have HEN := Lib.hid hP.ents
  have HE0 := Lib.hid hE0
  have HEL := Lib.hid (entC4_len p.ents)
  have HE1 := Lib.hid (entC4_one p.ents)
  have HST := Lib.hid (show mapL (idleC true) p.ents 0 = p.ents from mapL_zero _ _)
  have HSE := Lib.hid (mapL_all (idleC true) p.ents)
  obtain ⟨es, hes⟩ : ∃ es, es = p.ents := ⟨_, rfl⟩
  rw [← hes] at HWR HSM HEN HEL HE1 HSE HST HID hs3 ⊢
  obtain ⟨nE, hnE⟩ : ∃ nE, nE = es.length := ⟨_, rfl⟩
  rw [← hnE] at HWR HSM HEL HSE HID hs3 ⊢
  have HNE := Lib.hid hnE
  clear hsm hs1 hP hw hE0 hS h16 hi hil hiw hbs hnB hes hnE
  generalize p.cls.length = nC at *
  generalize p.rows.length = nR at *
  generalize list.length = nL at *
  generalize (p.wide.toNat : Nat) = wy at *
  go_enter Try.func3, Try.ntmps3
  go_wp2_with (first
    | (go_at_call 16; (with_reducible refine (HSP.out _ (by exact blw)).mono ?_); rintro e w1 ⟨rfl, hb1⟩; have z1 := (hb1.block w.heap.size (by simp)).trans ((heap_push _ _ _).trans (if_pos rfl)); have HB1 := Lib.hid (show Below w.heap.size w w1 from (balloc (brefl w) _).trans (hb1.mono (by simp))); have l1 := (Array.getElem?_eq_some_iff.1 z1).1; have q1 := fun o => cell_of_heap z1 o; have f1 := fun o => froz_of_heap z1 o; have Z1 := Lib.hid z1; clear z1 hb1)
    | (go_at_call 17; (with_reducible refine (HSM.out _ HB1.out).mono ?_); rintro e w2 ⟨rfl, hb2⟩; have z2 := (hb2.block w.heap.size l1).trans Z1.out; have HB2 := Lib.hid (HB1.out.trans (hb2.mono HB1.out.size)); clear q1 f1 l1; have l2 := (Array.getElem?_eq_some_iff.1 z2).1; have q2 := fun o => cell_of_heap z2 o; have f2 := fun o => froz_of_heap z2 o; have Z2 := Lib.hid z2; clear z2 hb2 Z1)
    | (refine wpAllocK rfl 29 rfl _ alloc18 ?_; (try dsimp only [Act.put]); (try simp only [List.setIfInBounds_toArray, List.set_cons_succ, List.set_cons_zero]); refine wpStoreK rfl 29 _ _ rfl w2.heap.size _ #[.slice aC nC cC, .slice aR nR cR, .slice aE nE cE, .int .u8 (wy : Nat), .slice aL nL cL] rfl rfl ((heap_push _ _ _).trans (if_pos rfl)) size18 rfl (by simp [Value.oneCell']) ?_; intro V x5 hk5 hz5 hb5; have zb := (hk5 w.heap.size (by omega)).trans (((heap_push _ _ _).trans (if_neg (by omega))).trans Z2.out); have HBV := Lib.hid (HB2.out.trans (((balloc (brefl w2) _).trans hb5).mono HB2.out.size)); have hzV : V.heap.size = w2.heap.size + 1 := (by simpa using hz5); clear q2 f2; have ZB := Lib.hid zb; have ZX := Lib.hid x5; have q5 := fun o => cell_of_heap x5 o; have f5 := fun o => froz_of_heap x5 o; have qb := fun o => cell_of_heap zb o; have fb := fun o => froz_of_heap zb o; have HZV := Lib.hid hzV; have lb := (Array.getElem?_eq_some_iff.1 zb).1; have l5 := (Array.getElem?_eq_some_iff.1 x5).1; clear x5 hk5 hz5 hb5 zb hzV; (try dsimp only [Act.put]); (try simp only [List.setIfInBounds_toArray, List.set_cons_succ, List.set_cons_zero]))
    | (at_builtin; refine wpApp rfl _ _ 24 rfl V.heap.size 34 (.agg #[.int .i64 0, .int .i64 0, .int .i64 0, .int .i64 0]) 4 32 Try.underlying24 info_entry rfl (by decide) _ 0 [] rfl (World.ownsRow_lit V #[] 0 (Nat.le_refl _) (by decide) rfl) aE nE cE (es.flatMap entC4) rfl HEL.out (HEN.out.below ((balloc HBV.out _))) HE0.out HE1.out (by unfold maxLen; omega) (by omega) (by simp) ?_; intro a5 c5 w5 hown5 k51 k52 k53 hb6 hg5; rw [Nat.zero_add] at *; rw [List.nil_append] at hown5; have HO5 := Lib.hid hown5; have HB6 := Lib.hid (show Below V.heap.size V w5 from (balloc (brefl V) _).trans hb6); have z5 := (HB6.out.block w2.heap.size l5).trans ZX.out; have zb := (HB6.out.block w.heap.size lb).trans ZB.out; clear q5 f5 l5 qb fb; have q5 := fun o => cell_of_heap z5 o; have f5 := fun o => froz_of_heap z5 o; have l5 := (Array.getElem?_eq_some_iff.1 z5).1; have qb := fun o => cell_of_heap zb o; have fb := fun o => froz_of_heap zb o; have Z5 := Lib.hid z5; have ZB5 := Lib.hid zb; clear hown5 hg5 k53 hb6 z5 zb))
  obtain ⟨X, hX⟩ : ∃ X, X = w5.setCell ⟨w2.heap.size, 2, none⟩ (.slice a5 nE c5) := ⟨_, rfl⟩
  have zX : X.heap[w2.heap.size]? = some (.cells #[.slice aC nC cC, .slice aR nR cR, .slice a5 nE c5, .int .u8 (wy : Nat), .slice aL nL cL] 29 (0, 0)) := by rw [hX]; exact set_heap_at _ Z5.out
  have hb2w : w.heap.size < w2.heap.size := l2
  have hvz := HBV.out.size
  have HBX := Lib.hid (show Below w.heap.size w X from by
    rw [hX]
    exact (HBV.out.trans (HB6.out.mono hvz)).setCell (p := ⟨w2.heap.size, 2, none⟩) (Nat.le_of_lt hb2w) _)
  have HOX := Lib.hid (show X.ownsRow V.heap.size 34 4 (.slice a5 nE c5) nE (es.flatMap entC4) from by rw [hX]; exact set_owns (o := 2) _ HO5.out (own_neE HO5.out Z5.out (by decide)))
  have ZX5 := Lib.hid zX
  have hgX : w2.heap.size < X.heap.size := (Array.getElem?_eq_some_iff.1 zX).1
  have hgV : w2.heap.size < V.heap.size := by have := HZV.out; omega
  have hXV : V.heap.size ≤ X.heap.size := by rw [hX]; simpa using HB6.out.size
  rw [← hX]
  clear hX zX q5 f5 l5 qb fb lb l2 HO5 HB6 HB1 HB2 Z5 ZB5 ZB ZX HSP HSM HBV HZV
  generalize w2.heap.size = g5 at *
  generalize V.heap.size = gv5 at *
  go_loopw [32] (fun i wr => ∃ j : Nat, j ≤ nE ∧ i = .int .i64 (j : Nat) ∧ wr.ownsRow gv5 34 4 (.slice a5 nE c5) nE ((mapL (idleC true) es j).flatMap entC4) ∧ Below gv5 X wr) (fun i _ => nE - (Go.RowKit.intOf i).toNat)
  case atStart => exact ⟨0, Nat.zero_le _, rfl, by rw [HST.out]; exact HOX.out, Below.refl _ _⟩
  case round =>
    obtain ⟨j, hj, rfl, hx, hb⟩ := hrel
    rename World => wr
    have HX := Lib.hid hx
    have HB := Lib.hid hb
    have zr := (hb.block g5 hgV).trans ZX5.out
    have ZR := Lib.hid zr
    have qr := fun o => cell_of_heap zr o
    have fr := fun o => froz_of_heap zr o
    have lr := (Array.getElem?_eq_some_iff.1 zr).1
    clear hx hb zr
    by_cases hlt : j < nE
    · obtain ⟨e, he⟩ : ∃ e, es[j]? = some e := ⟨_, List.getElem?_eq_getElem (by rw [← HNE.out]; exact hlt)⟩
      have HMS := Lib.hid (mapL_set (idleC true) es j e he)
      have HGE := Lib.hid ((mapL_get (idleC true) es j).trans he)
      obtain ⟨gE, csE, uE, haE, hgE, hhE, hcE, _, hfE, hsE⟩ := row_at HX.out (j * 4 + 2) (by omega)
      subst haE
      obtain ⟨_, _, uF, haF, _, _, hcF, _, hfF, hsF⟩ := row_at (hsE (.int .i64 65535)) (j * 4 + 3) (by omega)
      injection haF with haF
      injection haF with haF
      subst haF
      obtain ⟨_, _, uG, haG, _, _, hcG, _, hfG, _⟩ := row_at HX.out (j * 4 + 3) (by omega)
      injection haG with haG
      injection haG with haG
      subst haG
      have hs' := hsF (.int .i64 65535)
      rw [entC4_set23 _ j _ _ e HGE.out, show (e.1, e.2.1, (65535 : Int), (65535 : Int)) = idleC true e from rfl, HMS.out] at hs'
      have HS := Lib.hid hs'
      have HBS := Lib.hid ((HB.out.setCell (p := ⟨gE, j * 4 + 2, none⟩) hgE (.int .i64 65535)).setCell (p := ⟨gE, j * 4 + 3, none⟩) hgE (.int .i64 65535))
      have lE := cell_lt hcE
      simp only at lE
      clear hs' hsE hsF hhE he hcF hfF
      go_wp2_with fail
      refine wp_region_tree (.step 0 (.step 1 (.step 2 (.step 3 (.step 4 (.step 5 (.step 6 (.step 7 (.step 8 (.step 9 (.step 10 (.step 11 (.step 12 (.step 13 .nil)))))))))))))) (by kernel_rfl) (by kernel_rfl) (by kernel_rfl) (by kernel_rfl) (by intro _ _ d_ _ _ h_; cases d_ <;> first | exact h_ | (dsimp +zetaDelta only at h_ ⊢; exact h_)) (fun w' => ∃ p : Wld wr [gE], w' = p.val) (wld_start _ _) ?_
      have hG_ := @wldC1 wr gE
      (refine tree_quiet gtA (by rfl) (by rfl) (fun K_ hK_ => ?_); go_big_quiet_op; refine hK_ _ ?_; clear hK_ K_)
      (refine tree_quiet gtA (by rfl) (by rfl) (fun K_ hK_ => ?_); go_big_quiet_op; refine hK_ _ ?_; clear hK_ K_)
      (refine tree_quiet gtA (by rfl) (by rfl) (fun K_ hK_ => ?_); go_big_quiet_op; refine hK_ _ ?_; clear hK_ K_)
      (refine tree_quiet gtA (by rfl) (by rfl) (fun K_ hK_ => ?_); go_big_quiet_op; refine hK_ _ ?_; clear hK_ K_)
      (refine tree_quiet gtA (by rfl) (by rfl) (fun K_ hK_ => ?_); go_big_quiet_op; refine hK_ _ ?_; clear hK_ K_)
      (refine tree_quiet gtA (by rfl) (by rfl) (fun K_ hK_ => ?_); go_big_quiet_op; refine hK_ _ ?_; clear hK_ K_)
      (refine tree_quiet gtA (by rfl) (by rfl) (fun K_ hK_ => ?_); go_big_quiet_op; refine hK_ _ ?_; clear hK_ K_)
      (refine tree_quiet gtA (by rfl) (by rfl) (fun K_ hK_ => ?_); go_big_quiet_op; refine hK_ _ ?_; clear hK_ K_)
      (refine tree_quiet gtA (by rfl) (by rfl) (fun K_ hK_ => ?_); go_big_quiet_op; refine hK_ _ ?_; clear hK_ K_)
      (refine tree_quiet gtA (by rfl) (by rfl) (fun K_ hK_ => ?_); go_big_quiet_op; refine hK_ _ ?_; clear hK_ K_)
      (refine tree_run gtA (by rfl) (by rfl) (fun K_ hK_ => ?_); have HK_ := Lib.hid hK_; clear hK_; go_wp2_with (fail); refine HK_.out _ _ (wld_ofA) ?_; clear HK_)
      (refine tree_quiet gtA (by rfl) (by rfl) (fun K_ hK_ => ?_); go_big_quiet_op; refine hK_ _ ?_; clear hK_ K_)
      (refine tree_quiet gtA (by rfl) (by rfl) (fun K_ hK_ => ?_); go_big_quiet_op; refine hK_ _ ?_; clear hK_ K_)
      (refine tree_run gtA (by rfl) (by rfl) (fun K_ hK_ => ?_); have HK_ := Lib.hid hK_; clear hK_; go_wp2_with (fail); refine HK_.out _ _ (wld_ofA) ?_; clear HK_)
      refine tree_nil ?_
      clear hG_
      go_wp2_with fail
      go_roundw
      case rel => exact ⟨j + 1, hlt, by go_num, owns_below HS.out (bdrew1 (brefl _)) (Nat.le_refl _), HBS.out.drew⟩
      case measure => simp only [Go.RowKit.intOf]; omega
    · obtain rfl : nE = j := by omega
      have hxx := HX.out
      rw [HSE.out] at hxx
      have HEW := Lib.hid (has_of_owns hxx)
      have HBW := Lib.hid (HBX.out.trans (HB.out.mono (by have := HBX.out.size; omega)))
      clear hxx HX HB HBX HOX ZX5 HST HSE HEL HE1 HE0 HEN HNE hlt hj
      go_wp2_with (go_at_call 19; (with_reducible refine (HWR.out wr HBW.out a5 c5 HEW.out).mono ?_); rintro e w6 ⟨a6, c6, rfl, hown6, k61, k62, k63, hb6⟩; have HH6 := Lib.hid (has_of_owns hown6); have HB6 := Lib.hid (HBW.out.trans (hb6.mono HBW.out.size)); have z6 := (hb6.block g5 lr).trans ZR.out; have Z6 := Lib.hid z6; have HE6 := Lib.hid (HEW.out.below hb6); clear qr fr lr; have q6 := fun o => cell_of_heap z6 o; have f6 := fun o => froz_of_heap z6 o; have l6 := (Array.getElem?_eq_some_iff.1 z6).1; clear hown6 hb6 z6)
      by_cases hok : ∃ rs S, IOk bs 40 rs S
      case neg =>
        have hno : ∀ rs S, ¬ IOk bs 40 rs S := fun rs S h => hok ⟨rs, S, h⟩
        clear hok HID
        refine (iread_none a6 nB c6 bs 40 40 rfl w6 HH6.out HL.out (by omega) (by decide) (by decide) hno).mono ?_
        rintro e w7 ⟨rfl, hb7⟩
        have z7 := (hb7.block g5 l6).trans Z6.out
        have q7 := fun o => cell_of_heap z7 o
        have HB7 := Lib.hid (HB6.out.trans (hb7.mono HB6.out.size))
        have HE7 := Lib.hid (HE6.out.below hb7)
        have HNO := Lib.hid hno
        clear hb7 hno q6 f6 l6 z7
        go_wp2_with (first
          | (go_at_call 19; (with_reducible refine (HWR.out w7 HB7.out a5 c5 HE7.out).mono ?_); rintro e w8 ⟨a8, c8, rfl, hown8, k81, k82, _, hb8⟩; have HH8 := Lib.hid (has_of_owns hown8); have HB8 := Lib.hid (HB7.out.trans (hb8.mono HB7.out.size)); clear hown8 hb8)
          | (go_at_call 20; (with_reducible refine (refiread_any a8 nB c8 bs 40 40 rfl w8 HH8.out HL.out k81 k82 hn2 (by decide) (by decide)).mono ?_); rintro e w9 ⟨(⟨rs, S, _, _, _, _, _, hk, _⟩ | ⟨_, rfl⟩), hb9⟩; (first | exact absurd hk (HNO.out rs S) | skip); have HB9 := Lib.hid (HB8.out.trans (hb9.mono HB8.out.size)); clear hb9))
        go_ret
        exact ⟨rfl, HB9.out.alloc HB9.out.size _⟩
      obtain ⟨rs, S, hok⟩ := hok
      have HRF := Lib.hid (fun a c W (hW : Has W a (bytesV bs)) (k1 : nB ≤ c) (k2 : c ≤ maxLen) => show Calls Try.prog 20 #[.slice a nB c, .int .i64 40] W fun e w' => (∃ (a' : Option Addr) (c' : Nat) (aL : Option Addr) (nL cL : Nat), e = .returned (.tuple #[.agg #[.slice a nB c, .int .i64 (num bs 0 4 : Nat), .int .i64 (num bs 8 4 : Nat), .int .i64 (num bs 12 4 : Nat), .int .i64 (S : Nat), .int .i64 (needE bs S : Nat), .int .i64 2, .slice (adv a c (num bs 4 4)) (nB - num bs 4 4) (c - num bs 4 4), .slice a' rs.length c', .slice aL nL cL], .bool true])) ∧ Below W.heap.size W w' from (refiread_any a nB c bs 40 40 rfl W hW HL.out k1 k2 hn2 (by decide) (by decide)).mono (by
        rintro e w' ⟨(⟨rs', S', a', c', aL', nL', cL', hk, rfl⟩ | ⟨hn, _⟩), hb⟩
        · obtain ⟨e1, e2⟩ := hk.det hok
          subst e1 e2
          exact ⟨⟨a', c', aL', nL', cL', rfl⟩, hb⟩
        · exact absurd hok (hn rs S)))
      have HRUN := Lib.hid (fun (Bm gt gl : Nat) (a : Option Addr) (c : Nat) (W : World) (hT : IIs 0 Bm gt bs rs S W) (hG : GIs w.heap.size gl a c (newG ids) W) (hB : w.heap.size ≤ W.heap.size) (hgl : w.heap.size ≤ gl) => show Calls Try.prog 22 #[.pointer (some ⟨gt, 0, none⟩), .pointer (some ⟨gl, 0, none⟩), .int .i64 0] W _ from irun_any 0 Bm gt bs 40 rs S w.heap.size gl a c (newG ids) 0 0 W hT hok (by decide) (by decide) (Nat.zero_le _) hgl hG hB (newG_idsC HIW.out) rfl (by rw [newG_length, HIL.out]; omega))
      have hid2 := fun hN => HID.out rs S hok hN (bs.drop (num bs 16 4)) 0 (newG ids)
      have hnl : (newG ids).length = nI := by rw [newG_length]; exact HIL.out
      have HNL := Lib.hid hnl
      clear HID hnl
      refine (iread_some a6 nB c6 bs 40 40 rfl rs S w6 HH6.out HL.out (by omega) (by decide) (by decide) hok).mono ?_
      rintro e w7 ⟨gt, rfl, hT, hb7⟩
      have z7 := (hb7.block g5 l6).trans Z6.out
      have Z7 := Lib.hid z7
      have q7 := fun o => cell_of_heap z7 o
      have l7 := (Array.getElem?_eq_some_iff.1 z7).1
      have HT7 := Lib.hid hT
      have HB7 := Lib.hid (HB6.out.trans (hb7.mono HB6.out.size))
      have HE7 := Lib.hid (HE6.out.below hb7)
      clear hb7 hT q6 f6 l6 z7 hok
      generalize num bs 0 4 = P0 at *
      generalize num bs 4 4 = P4 at *
      generalize num bs 8 4 = P8 at *
      generalize num bs 12 4 = P12 at *
      generalize needE bs S = NE at *
      by_cases hN : nE < NE
      · have d1 : decide ((nE : Int) < (NE : Int)) = true := by simpa using hN
        clear hid2
        go_wp2_with (first
          | (go_at_call 19; (with_reducible refine (HWR.out w7 HB7.out a5 c5 HE7.out).mono ?_); rintro e w8 ⟨a8, c8, rfl, hown8, k81, k82, _, hb8⟩; have HH8 := Lib.hid (has_of_owns hown8); have HB8 := Lib.hid (HB7.out.trans (hb8.mono HB7.out.size)); have HT8 := Lib.hid (HT7.out.below hb8); have z8 := (hb8.block g5 l7).trans Z7.out; have Z8 := Lib.hid z8; have q8 := fun o => cell_of_heap z8 o; have l8 := (Array.getElem?_eq_some_iff.1 z8).1; clear hown8 hb8 z8)
          | (go_at_call 20; (with_reducible refine (HRF.out a8 c8 w8 HH8.out k81 k82).mono ?_); rintro e w9 ⟨⟨a9, c9, aL9, nL9, cL9, rfl⟩, hb9⟩; have HB9 := Lib.hid (HB8.out.trans (hb9.mono HB8.out.size)); have HT9 := Lib.hid (HT8.out.below hb9); have z9 := (hb9.block g5 l8).trans Z8.out; have q9 := fun o => cell_of_heap z9 o; have l9 := (Array.getElem?_eq_some_iff.1 z9).1; clear hb9 z9))
        go_ret
        exact ⟨rfl, HB9.out.alloc HB9.out.size _⟩
      have d1 : decide ((nE : Int) < (NE : Int)) = false := by simp; omega
      have hR := hid2 (by omega)
      clear hid2
      by_cases hSR : nR < S
      · have d2 : decide ((nR : Int) < (S : Int)) = true := by simpa using hSR
        clear hR
        go_wp2_with (first
          | (go_at_call 19; (with_reducible refine (HWR.out w7 HB7.out a5 c5 HE7.out).mono ?_); rintro e w8 ⟨a8, c8, rfl, hown8, k81, k82, _, hb8⟩; have HH8 := Lib.hid (has_of_owns hown8); have HB8 := Lib.hid (HB7.out.trans (hb8.mono HB7.out.size)); have HT8 := Lib.hid (HT7.out.below hb8); have z8 := (hb8.block g5 l7).trans Z7.out; have Z8 := Lib.hid z8; have q8 := fun o => cell_of_heap z8 o; have l8 := (Array.getElem?_eq_some_iff.1 z8).1; clear hown8 hb8 z8)
          | (go_at_call 20; (with_reducible refine (HRF.out a8 c8 w8 HH8.out k81 k82).mono ?_); rintro e w9 ⟨⟨a9, c9, aL9, nL9, cL9, rfl⟩, hb9⟩; have HB9 := Lib.hid (HB8.out.trans (hb9.mono HB8.out.size)); have HT9 := Lib.hid (HT8.out.below hb9); have z9 := (hb9.block g5 l8).trans Z8.out; have q9 := fun o => cell_of_heap z9 o; have l9 := (Array.getElem?_eq_some_iff.1 z9).1; clear hb9 z9))
        go_ret
        exact ⟨rfl, HB9.out.alloc HB9.out.size _⟩
      have d2 : decide ((nR : Int) < (S : Int)) = false := by simp; omega
      obtain ⟨ans, hans⟩ : ∃ ans : Int, ans = if (insD bs rs (bs.drop (num bs 16 4)) 0 (newG ids)).1.2.2.2 = true then (4 : Int) else ((insD bs rs (bs.drop (num bs 16 4)) 0 (newG ids)).2.2 : Nat) := ⟨_, rfl⟩
      rw [← hans] at HRUN
      clear hans
      generalize insD bs rs (bs.drop (num bs 16 4)) 0 (newG ids) = RR at *
      obtain ⟨⟨R, _, P, _⟩, _, _⟩ := RR
      simp only at hR HRUN
      obtain ⟨rfl, hP0⟩ := hR
      injection hP0 with hP0 _
      subst hP0
      go_wp2_with (first
          | (go_at_call 19; (with_reducible refine (HWR.out w7 HB7.out a5 c5 HE7.out).mono ?_); rintro e w8 ⟨a8, c8, rfl, hown8, k81, k82, _, hb8⟩; have HH8 := Lib.hid (has_of_owns hown8); have HB8 := Lib.hid (HB7.out.trans (hb8.mono HB7.out.size)); have HT8 := Lib.hid (HT7.out.below hb8); have z8 := (hb8.block g5 l7).trans Z7.out; have Z8 := Lib.hid z8; have q8 := fun o => cell_of_heap z8 o; have l8 := (Array.getElem?_eq_some_iff.1 z8).1; clear hown8 hb8 z8)
          | (go_at_call 20; (with_reducible refine (HRF.out a8 c8 w8 HH8.out k81 k82).mono ?_); rintro e w9 ⟨⟨a9, c9, aL9, nL9, cL9, rfl⟩, hb9⟩; have HB9 := Lib.hid (HB8.out.trans (hb9.mono HB8.out.size)); have HT9 := Lib.hid (HT8.out.below hb9); have z9 := (hb9.block g5 l8).trans Z8.out; have q9 := fun o => cell_of_heap z9 o; have l9 := (Array.getElem?_eq_some_iff.1 z9).1; clear hb9 z9)
          | (go_at_call 21; (with_reducible refine (gnew_any aI nI cI ids _ (HI.out.below (HB9.out.alloc HB9.out.size _)) HIL.out (by omega)).mono ?_); rintro e w10 ⟨gx, ax, cx, rfl, hGx, hgx, hb10⟩; have hz9 := HB9.out.size; have HGX := Lib.hid (hGx.mono (show w.heap.size ≤ _ from by simp only [World.size_alloc]; omega)); have HT10 := Lib.hid ((HT9.out.below (balloc (brefl w9) _)).below hb10); have HB10 := Lib.hid ((HB9.out.alloc HB9.out.size _).trans (hb10.mono (show w.heap.size ≤ _ from by simp only [World.size_alloc]; omega))); have hgx0 : w.heap.size ≤ gx := (by simp only [World.size_alloc] at hgx; omega); clear hGx hgx hb10 hz9)
          | (go_at_call 22; (with_reducible refine (HRUN.out _ _ _ _ _ w10 HT10.out HGX.out HB10.out.size hgx0).mono ?_); rintro e w11 ⟨rfl, ⟨ax11, cx11, hG, _⟩, hk⟩; have HG11 := Lib.hid hG; have HB11 := Lib.hid (HB10.out.trans hk.below); clear hG hk)
          | (go_at_call 24; (with_reducible refine (gglyphs_any w.heap.size gx ax11 cx11 (newG ids) w11 HG11.out (by rw [HNL.out]; omega)).mono ?_); rintro e w12 ⟨a12, c12, rfl, ho, _, _, _, hb12⟩; have HH12 := Lib.hid (has_of_owns ho); have HB12 := Lib.hid (HB11.out.trans (hb12.mono HB11.out.size)); clear ho hb12)
          | (go_at_call 25; (with_reducible refine (refNewG_any aI nI cI ids w12 (HI.out.below HB12.out) HIL.out (by omega)).mono ?_); rintro e w13 ⟨a13, c13, rfl, ho, hb13⟩; have HH13 := Lib.hid (has_of_owns ho); have HH12' := Lib.hid (HH12.out.below hb13); have HB13 := Lib.hid (HB12.out.trans (hb13.mono HB12.out.size)); clear ho hb13)
          | (go_at_call 23; (with_reducible refine (refSameG_any _ _ (newG ids).length _ nI _ (newG ids) (newG ids) w13 HH12'.out rfl HH13.out HNL.out (by rw [HNL.out]; omega) (by omega)).mono ?_); rintro e w14 ⟨rfl, hb14⟩; rw [decide_eq_true rfl]; have HB14 := Lib.hid (HB13.out.trans (hb14.mono HB13.out.size)); clear hb14))
      go_ret
      exact ⟨rfl, HB14.out⟩

open Go.ChangeShapes Go.WideShapes Go.ChangeAt Go.RowKit
open Go.ChangeMaps (open_string shut_string)

set_option maxRecDepth 100000 in
theorem insIdle_walks (H : Type) (enc : TypeId × Value → H) : Walks H enc 3 [29, 30] := by
  intro W base args ds p hval hA _
  obtain ⟨v0, vs0, d0, ds0, p0, q0, hargs, rfl, rfl, h0, r0⟩ := trodAll_cons hA
  obtain ⟨v1, vs1, d1, ds1, p1, q1, rfl, rfl, rfl, h1, r1⟩ := trodAll_cons r0
  obtain ⟨rfl, rfl, rfl⟩ := trodAll_nil r1
  obtain rfl : args = #[v0, v1] := by cases args; simp_all
  obtain ⟨p, aC, aR, aE, rv, cC, cR, cE, aL, cL, list, rfl, hP, hw, hE, hS, h16⟩ := open_plan18 (hval 0 29 v0 rfl rfl) h0
  obtain ⟨a, n, c, ids, rfl, hl, _, _, _, hi, hz⟩ := open_ids (hval 1 30 v1 rfl rfl) h1
  exact insIdle_walk p aC aR aE rv cC cR cE aL cL list a n c ids W hP hw hS h16 hi hl hz hE

set_option maxRecDepth 100000 in
theorem insIdle_lifted (os : Os) (started : os.Started) (H : Type) (enc : TypeId × Value → H) :
    ReturnsInHanded {} Try.checked os 3 .any (Rows.insIdleSpec.pre6 enc Try.prog Try.f3 Rows.insIdleRow.domain false) (Rows.insIdleSpec.post enc Try.prog Try.f3 false true false false) :=
  lift_law (s := Rows.insIdleSpec) (fn := Try.f3) started (by kernel_rfl) Try.func3
    (ChangeSpec.witness6 (enc := enc) (C := Try.checked) false ⟨#[], #[.agg #[.slice none 0 0, .slice none 0 0, .slice none 0 0, .int .u8 0, .slice none 0 0], .slice none 0 0], []⟩ 8 (by kernel_rfl) (by kernel_rfl) (by kernel_rfl) (by kernel_rfl))
    rfl rfl (fun ds h => by match ds, h with | [d0, d1], _ => rfl) (by intro t ht; simp [Try.params3] at ht; first | (subst ht; exact ⟨by kernel_rfl, of_decide_eq_true (by kernel_rfl)⟩) | (obtain rfl | rfl := ht <;> exact ⟨by kernel_rfl, of_decide_eq_true (by kernel_rfl)⟩) | (obtain rfl | rfl | rfl := ht <;> exact ⟨by kernel_rfl, of_decide_eq_true (by kernel_rfl)⟩) | (obtain rfl | rfl | rfl | rfl := ht <;> exact ⟨by kernel_rfl, of_decide_eq_true (by kernel_rfl)⟩))
    (by rw [Try.params3]; exact insIdle_walks H enc)
theorem insIdle_over : Rows.insIdleRow.holds Try.pinned (OpenSpec.ofChange Rows.insIdleSpec) :=
  OpenClaim.holds_of_wide 3 Try.f3 rfl rfl rfl rfl rfl rfl rfl ⟨rfl, rfl, rfl, rfl, rfl⟩ rfl rfl rfl rfl rfl (by kernel_rfl) Try.func3 (by kernel_rfl)
    (of_decide_eq_true (by kernel_rfl)) (by unfold Func.isWrapper; first | (rw [if_pos (by decide +kernel)]; kernel_rfl) | (rw [if_neg (by decide +kernel)]; exact ⟨rfl, rfl⟩))
    (fun os started H enc _ => insIdle_lifted os started H enc)
theorem insIdle_proved : Rows.InsIdleSaid := insIdle_over
#print axioms insIdle_proved
end Go.Proofs.Ytbicnkopmamnpaa
