
/- The walk of LigaIdle. LigaIdle returns true for every plan of a machine, actions, components and ligatures, every line and either choice, and changes nothing: entries that perform nothing, or keep nothing, leave a line as it is. No condition beside the row's own. -/
import Derived.Test.YthehcbbdkiomnaaJ01
import Derived.Test.YthehcbbdkiomnaaJ24
import Derived.Test.YthehcbbdkiomnaaJ22
import Derived.Test.YthehcbbdkiomnaaJ18
import Derived.Test.YthehcbbdkiomnaaJ25
import Derived.Test.YthehcbbdkiomnaaJ16
namespace Go.Proofs.Ythehcbbdkiomnaa
open Go.RowKit Go.Lib

theorem alloc17 (w : World) : (Instr.alloc 55 true (.tuple #[])).run Try.prog w = .ok (.pointer (some ⟨w.heap.size, 0, none⟩)) (w.alloc (.cells #[.slice none 0 0, .slice none 0 0, .slice none 0 0, .int .u8 0, .slice none 0 0, .slice none 0 0, .slice none 0 0] 55)) := by kernel_rfl
theorem size17 : (Try.prog.info? 55).map (·.size) = some 7 := by kernel_rfl
set_option maxRecDepth 100000 in
set_option maxHeartbeats 12800000 in
theorem ligaIdle_walk (p : PlanL) (aC aR aE : Option Addr) (rv : List Value) (cC cR cE : Nat) (aA : Option Addr) (cA : Nat) (acts : List Nat) (aK : Option Addr) (cK : Nat) (comps : List Nat) (aL : Option Addr) (cL : Nat) (ligs : List Nat) (aI : Option Addr) (nI cI : Nat) (ids : List Int) (which : Bool) (w : World) (hP : PlanHas w p aC aR rv aE) (hw : ∀ e ∈ p.ents, wfI e.1 ∧ wfI e.2.1 ∧ wfI e.2.2.1 ∧ wfI e.2.2.2)
    (hA : Has w aA (u32V acts)) (h32 : ∀ x ∈ acts, x ≤ 4294967295) (hK : Has w aK (u16V comps)) (h16 : ∀ x ∈ comps, x ≤ 65535) (hS : Has w aL (u16V ligs)) (h17 : ∀ x ∈ ligs, x ≤ 65535) (hi : Has w aI (iv ids)) (hil : ids.length = nI) (hiw : ∀ z ∈ ids, -9223372036854775808 ≤ z ∧ z ≤ 9223372036854775807) (hE0 : aE = none → cE = 0) :
    Calls Try.prog 5 #[.agg #[.slice aC p.cls.length cC, .slice aR p.rows.length cR, .slice aE p.ents.length cE, .int .u8 (p.wide.toNat : Nat), .slice aA acts.length cA, .slice aK comps.length cK, .slice aL ligs.length cL], .slice aI nI cI, .bool which] w fun e w' => e = .returned (.bool true) ∧ Below w.heap.size w w' := by
  have hAC := allocC
  have hAF := allocF
  have HSP := Lib.hid (fun W (_ : Below w.heap.size w W) => speaks17_any W)
  have hsm := fun W (_ : Below w.heap.size w W) => small17_any aC aR aE aA aK aL aI p.cls.length p.rows.length p.ents.length acts.length comps.length ligs.length nI cC cR cE cA cK cL cI (p.wide.toNat : Int) W
  have HI := Lib.hid hi
  have HIL := Lib.hid hil
  have HIW := Lib.hid hiw
  by_cases hs : Sm17 p.cls.length p.rows.length p.ents.length acts.length comps.length ligs.length nI
  case neg =>
    have HSM := Lib.hid (fun W (hW : Below w.heap.size w W) => (hsm W hW).mono (R' := fun e w' => e = .returned (.bool false) ∧ Below W.heap.size W w') (by
      rintro e w' ⟨⟨b, rfl, hb⟩, hb2⟩
      refine ⟨?_, hb2⟩
      cases b with
      | false => rfl
      | true => exact absurd (hb.1 rfl) hs))
    clear hE0 hsm hs hP hw hA h32 hK h16 hS h17 hi hil hiw
    generalize p.cls.length = nC at *
    generalize p.rows.length = nR at *
    generalize p.ents.length = nE at *
    generalize acts.length = nA at *
    generalize comps.length = nK at *
    generalize ligs.length = nL at *
    generalize (p.wide.toNat : Int) = wd at *
    go_enter Try.func5, Try.ntmps5
    go_wp2_with (first | (go_at_call 10; (with_reducible refine (HSP.out _ (by exact blw)).mono ?_); rintro e w1 ⟨rfl, hb1⟩; have h1c := bc hb1; have h1f := bf hb1; have h1z := hb1.size; try simp only [World.size_alloc, World.size_drew] at h1z) | (go_at_call 19; (with_reducible refine (HSM.out _ (by exact blw)).mono ?_); rintro e w2 ⟨rfl, hb2⟩; have h2c := bc hb2; have h2f := bf hb2; have h2z := hb2.size; try simp only [World.size_alloc, World.size_drew] at h2z))
    go_ret
    exact ⟨rfl, blw⟩
  have HSM := Lib.hid (fun W (hW : Below w.heap.size w W) => (hsm W hW).mono (R' := fun e w' => e = .returned (.bool true) ∧ Below W.heap.size W w') (by
    rintro e w' ⟨⟨b, rfl, hb⟩, hb2⟩
    refine ⟨?_, hb2⟩
    rw [hb.2 hs]))
  obtain ⟨hs1, hs2, hs3, hs4, hs5, hs6, hs7⟩ := hs
  have hn2 : (ligB (p.idleJ which) acts comps ligs).length ≤ 4000 := by
    have h1 := ligB_length (p := p.idleJ which) acts comps ligs
    have h2 := planL1 (p := p.idleJ which)
    have h3 : (p.idleJ which).n ≤ 11 := by unfold PlanL.n; omega
    have h4 : (p.idleJ which).rows.length * (p.idleJ which).n ≤ 220 := Nat.le_trans (Nat.mul_le_mul hs2 h3) (by decide)
    have h5 : (p.idleJ which).cls.length ≤ 40 := hs1
    have h6 : (p.idleJ which).ents.length = p.ents.length := List.length_map _
    omega
  have HID := Lib.hid (fun (rs : List RP) (S : Nat) hok hN ac co li l => lig_idle which p acts comps ligs hs1 hs2 hs3 (rs := rs) (S := S) hok hN ac co li l)
  have HWR := Lib.hid (fun W (hW : Below w.heap.size w W) (a : Option Addr) (c : Nat) (hE : Has W a ((p.ents.map (idleJ which)).flatMap entC4)) => by
    have hP2 := hP.below hW
    have := write17_any (p.idleJ which) aC aR a rv cC cR c aA aK aL acts.length cA comps.length cK ligs.length cL acts comps ligs W ⟨hP2.cls, hP2.rows, hP2.rlen, hP2.row, hE⟩ (by show p.cls.length ≤ 1000; omega) (by show p.rows.length ≤ 1000; omega) (by simp only [PlanL.idleJ, List.length_map]; omega) (idleJ_wf which p.ents hw) (hA.below hW) rfl (by omega) h32 (hK.below hW) rfl (by omega) h16 (hS.below hW) rfl (by omega) h17
    rw [show (p.idleJ which).ents.length = p.ents.length from by simp only [PlanL.idleJ, List.length_map]] at this
    exact (show Calls Try.prog 20 #[.agg #[.slice aC p.cls.length cC, .slice aR p.rows.length cR, .slice a p.ents.length c, .int .u8 (p.wide.toNat : Nat), .slice aA acts.length cA, .slice aK comps.length cK, .slice aL ligs.length cL]] W fun e w' => ∃ a' c', e = .returned (.slice a' (ligB (p.idleJ which) acts comps ligs).length c') ∧ w'.ownsRow W.heap.size 5 1 (.slice a' (ligB (p.idleJ which) acts comps ligs).length c') (ligB (p.idleJ which) acts comps ligs).length (bytesV (ligB (p.idleJ which) acts comps ligs)) ∧ (ligB (p.idleJ which) acts comps ligs).length ≤ c' ∧ c' ≤ maxLen ∧ (a' = none → c' = 0) ∧ Below W.heap.size W w' from this))
  generalize hbs : ligB (p.idleJ which) acts comps ligs = bs at *
  obtain ⟨nB, hnB⟩ : ∃ nB, nB = bs.length := ⟨_, rfl⟩
  rw [← hnB] at HWR hn2
  have HL := Lib.hid hnB.symm
  have HEN := Lib.hid hP.ents
  have HE0 := Lib.hid hE0
  have HEL := Lib.hid (entC4_len p.ents)
  have HE1 := Lib.hid (entC4_one p.ents)
  have HST := Lib.hid (show mapL (idleJ which) p.ents 0 = p.ents from mapL_zero _ _)
  have HSE := Lib.hid (mapL_all (idleJ which) p.ents)
  obtain ⟨es, hes⟩ : ∃ es, es = p.ents := ⟨_, rfl⟩
  rw [← hes] at HWR HSM HEN HEL HE1 HSE HST HID hs3 ⊢
  obtain ⟨nE, hnE⟩ : ∃ nE, nE = es.length := ⟨_, rfl⟩
  rw [← hnE] at HWR HSM HEL HSE HID hs3 ⊢
  have HNE := Lib.hid hnE
  clear hsm hs1 hP hw hE0 hA h32 hK h16 hS h17 hi hil hiw hbs hnB hes hnE
  generalize p.cls.length = nC at *
  generalize p.rows.length = nR at *
  generalize acts.length = nA at *
  generalize comps.length = nK at *
  generalize ligs.length = nL at *
  generalize (p.wide.toNat : Nat) = wy at *
  go_enter Try.func5, Try.ntmps5
  go_wp2_with (first
    | (go_at_call 10; (with_reducible refine (HSP.out _ (by exact blw)).mono ?_); rintro e w1 ⟨rfl, hb1⟩; have z1 := (hb1.block w.heap.size (by simp)).trans ((heap_push _ _ _).trans (if_pos rfl)); have HB1 := Lib.hid (show Below w.heap.size w w1 from (balloc (brefl w) _).trans (hb1.mono (by simp))); have l1 := (Array.getElem?_eq_some_iff.1 z1).1; have q1 := fun o => cell_of_heap z1 o; have f1 := fun o => froz_of_heap z1 o; have Z1 := Lib.hid z1; clear z1 hb1)
    | (go_at_call 19; (with_reducible refine (HSM.out _ HB1.out).mono ?_); rintro e w2 ⟨rfl, hb2⟩; have z2 := (hb2.block w.heap.size l1).trans Z1.out; have HB2 := Lib.hid (HB1.out.trans (hb2.mono HB1.out.size)); clear q1 f1 l1; have l2 := (Array.getElem?_eq_some_iff.1 z2).1; have q2 := fun o => cell_of_heap z2 o; have f2 := fun o => froz_of_heap z2 o; have Z2 := Lib.hid z2; clear z2 hb2 Z1)
    | (refine wpAllocK rfl 55 rfl _ alloc17 ?_; (try dsimp only [Act.put]); (try simp only [List.setIfInBounds_toArray, List.set_cons_succ, List.set_cons_zero]); refine wpStoreK rfl 55 _ _ rfl w2.heap.size _ #[.slice aC nC cC, .slice aR nR cR, .slice aE nE cE, .int .u8 (wy : Nat), .slice aA nA cA, .slice aK nK cK, .slice aL nL cL] rfl rfl ((heap_push _ _ _).trans (if_pos rfl)) size17 rfl (by simp [Value.oneCell']) ?_; intro V x5 hk5 hz5 hb5; have zb := (hk5 w.heap.size (by omega)).trans (((heap_push _ _ _).trans (if_neg (by omega))).trans Z2.out); have HBV := Lib.hid (HB2.out.trans (((balloc (brefl w2) _).trans hb5).mono HB2.out.size)); have hzV : V.heap.size = w2.heap.size + 1 := (by simpa using hz5); clear q2 f2; have ZB := Lib.hid zb; have ZX := Lib.hid x5; have q5 := fun o => cell_of_heap x5 o; have f5 := fun o => froz_of_heap x5 o; have qb := fun o => cell_of_heap zb o; have fb := fun o => froz_of_heap zb o; have HZV := Lib.hid hzV; have lb := (Array.getElem?_eq_some_iff.1 zb).1; have l5 := (Array.getElem?_eq_some_iff.1 x5).1; clear x5 hk5 hz5 hb5 zb hzV; (try dsimp only [Act.put]); (try simp only [List.setIfInBounds_toArray, List.set_cons_succ, List.set_cons_zero]))
    | (at_builtin; refine wpApp rfl _ _ 49 rfl V.heap.size 59 (.agg #[.int .i64 0, .int .i64 0, .int .i64 0, .int .i64 0]) 4 32 Try.underlying49 info_entry rfl (by decide) _ 0 [] rfl (World.ownsRow_lit V #[] 0 (Nat.le_refl _) (by decide) rfl) aE nE cE (es.flatMap entC4) rfl HEL.out (HEN.out.below ((balloc HBV.out _))) HE0.out HE1.out (by unfold maxLen; omega) (by omega) (by simp) ?_; intro a5 c5 w5 hown5 k51 k52 k53 hb6 hg5; rw [Nat.zero_add] at *; rw [List.nil_append] at hown5; have HO5 := Lib.hid hown5; have HB6 := Lib.hid (show Below V.heap.size V w5 from (balloc (brefl V) _).trans hb6); have z5 := (HB6.out.block w2.heap.size l5).trans ZX.out; have zb := (HB6.out.block w.heap.size lb).trans ZB.out; clear q5 f5 l5 qb fb; have q5 := fun o => cell_of_heap z5 o; have f5 := fun o => froz_of_heap z5 o; have l5 := (Array.getElem?_eq_some_iff.1 z5).1; have qb := fun o => cell_of_heap zb o; have fb := fun o => froz_of_heap zb o; have Z5 := Lib.hid z5; have ZB5 := Lib.hid zb; clear hown5 hg5 k53 hb6 z5 zb))
  obtain ⟨X, hX⟩ : ∃ X, X = w5.setCell ⟨w2.heap.size, 2, none⟩ (.slice a5 nE c5) := ⟨_, rfl⟩
  have zX : X.heap[w2.heap.size]? = some (.cells #[.slice aC nC cC, .slice aR nR cR, .slice a5 nE c5, .int .u8 (wy : Nat), .slice aA nA cA, .slice aK nK cK, .slice aL nL cL] 55 (0, 0)) := by rw [hX]; exact set_heap_at _ Z5.out
  have hb2w : w.heap.size < w2.heap.size := l2
  have hvz := HBV.out.size
  have HBX := Lib.hid (show Below w.heap.size w X from by
    rw [hX]
    exact (HBV.out.trans (HB6.out.mono hvz)).setCell (p := ⟨w2.heap.size, 2, none⟩) (Nat.le_of_lt hb2w) _)
  have HOX := Lib.hid (show X.ownsRow V.heap.size 59 4 (.slice a5 nE c5) nE (es.flatMap entC4) from by rw [hX]; exact set_owns (o := 2) _ HO5.out (own_neE HO5.out Z5.out (by decide)))
  have ZX5 := Lib.hid zX
  have hgX : w2.heap.size < X.heap.size := (Array.getElem?_eq_some_iff.1 zX).1
  have hgV : w2.heap.size < V.heap.size := by have := HZV.out; omega
  have hXV : V.heap.size ≤ X.heap.size := by rw [hX]; simpa using HB6.out.size
  rw [← hX]
  clear hX zX q5 f5 l5 qb fb lb l2 HO5 HB6 HB1 HB2 Z5 ZB5 ZB ZX HSP HSM HBV HZV
  generalize w2.heap.size = g5 at *
  generalize V.heap.size = gv5 at *
  go_loopw [32] (fun i wr => ∃ j : Nat, j ≤ nE ∧ i = .int .i64 (j : Nat) ∧ wr.ownsRow gv5 59 4 (.slice a5 nE c5) nE ((mapL (idleJ which) es j).flatMap entC4) ∧ Below gv5 X wr) (fun i _ => nE - (Go.RowKit.intOf i).toNat)
  case atStart => exact ⟨0, Nat.zero_le _, rfl, by rw [HST.out]; exact HOX.out, Below.refl _ _⟩
  case round =>
    obtain ⟨j, hj, rfl, hx, hb⟩ := hrel
    rename World => wr
    have HX := Lib.hid hx
    have HB := Lib.hid hb
    have zr := (hb.block g5 hgV).trans ZX5.out
    have ZR := Lib.hid zr
    have qr := fun o => cell_of_heap zr o
    have fr := fun o => froz_of_heap zr o
    have lr := (Array.getElem?_eq_some_iff.1 zr).1
    clear hx hb zr
    by_cases hlt : j < nE
    · obtain ⟨e, he⟩ : ∃ e, es[j]? = some e := ⟨_, List.getElem?_eq_getElem (by rw [← HNE.out]; exact hlt)⟩
      have HMS := Lib.hid (mapL_set (idleJ which) es j e he)
      have HGE := Lib.hid ((mapL_get (idleJ which) es j).trans he)
      obtain ⟨gE, csE, uE, haE, hgE, hhE, hcE, _, hfE, hsE⟩ := row_at HX.out (j * 4 + 1) (by omega)
      subst haE
      have hu := (HX.out.cellAt (j * 4 + 1) (by omega)).trans (entC4_flag _ j e HGE.out)
      have hs' := hsE (.int .i64 (flagJ which e.2.1))
      rw [entC4_set _ j _ e HGE.out, show (e.1, flagJ which e.2.1, e.2.2.1, e.2.2.2) = idleJ which e from rfl, HMS.out] at hs'
      have HS := Lib.hid hs'
      have HBS := Lib.hid (HB.out.setCell (p := ⟨gE, j * 4 + 1, none⟩) hgE (.int .i64 (flagJ which e.2.1)))
      have lE := cell_lt hu
      simp only at lE
      clear hs' hsE hhE he hcE
      cases which with
      | true =>
        have hOR : bits .andNot .i64 e.2.1 8192 = flagJ true e.2.1 := rfl
        generalize e.2.1 = z at *
        generalize flagJ true z = z' at *
        go_wp2_with fail
        go_roundw
        case rel => exact ⟨j + 1, hlt, by go_num, HS.out, HBS.out⟩
        case measure => simp only [Go.RowKit.intOf]; omega
      | false =>
        have hOR : bits .andNot .i64 e.2.1 32768 = flagJ false e.2.1 := rfl
        generalize e.2.1 = z at *
        generalize flagJ false z = z' at *
        go_wp2_with fail
        go_roundw
        case rel => exact ⟨j + 1, hlt, by go_num, HS.out, HBS.out⟩
        case measure => simp only [Go.RowKit.intOf]; omega
    · obtain rfl : nE = j := by omega
      have hxx := HX.out
      rw [HSE.out] at hxx
      have HEW := Lib.hid (has_of_owns hxx)
      have HBW := Lib.hid (HBX.out.trans (HB.out.mono (by have := HBX.out.size; omega)))
      clear hxx HX HB HBX HOX ZX5 HST HSE HEL HE1 HE0 HEN HNE hlt hj
      go_wp2_with (go_at_call 20; (with_reducible refine (HWR.out wr HBW.out a5 c5 HEW.out).mono ?_); rintro e w6 ⟨a6, c6, rfl, hown6, k61, k62, k63, hb6⟩; have HH6 := Lib.hid (has_of_owns hown6); have HB6 := Lib.hid (HBW.out.trans (hb6.mono HBW.out.size)); have z6 := (hb6.block g5 lr).trans ZR.out; have Z6 := Lib.hid z6; have HE6 := Lib.hid (HEW.out.below hb6); clear qr fr lr; have q6 := fun o => cell_of_heap z6 o; have f6 := fun o => froz_of_heap z6 o; have l6 := (Array.getElem?_eq_some_iff.1 z6).1; clear hown6 hb6 z6)
      by_cases hok : ∃ rs S, JOk bs 40 rs S
      case neg =>
        have hno : ∀ rs S, ¬ JOk bs 40 rs S := fun rs S h => hok ⟨rs, S, h⟩
        clear hok HID
        refine (jread_none a6 nB c6 bs 40 40 rfl w6 HH6.out HL.out (by omega) (by decide) (by decide) hno).mono ?_
        rintro e w7 ⟨rfl, hb7⟩
        have z7 := (hb7.block g5 l6).trans Z6.out
        have q7 := fun o => cell_of_heap z7 o
        have HB7 := Lib.hid (HB6.out.trans (hb7.mono HB6.out.size))
        have HE7 := Lib.hid (HE6.out.below hb7)
        have HNO := Lib.hid hno
        clear hb7 hno q6 f6 l6 z7
        go_wp2_with (first
          | (go_at_call 20; (with_reducible refine (HWR.out w7 HB7.out a5 c5 HE7.out).mono ?_); rintro e w8 ⟨a8, c8, rfl, hown8, k81, k82, _, hb8⟩; have HH8 := Lib.hid (has_of_owns hown8); have HB8 := Lib.hid (HB7.out.trans (hb8.mono HB7.out.size)); clear hown8 hb8)
          | (go_at_call 12; (with_reducible refine (refjread_any a8 nB c8 bs 40 40 rfl w8 HH8.out HL.out k81 k82 hn2 (by decide) (by decide)).mono ?_); rintro e w9 ⟨(⟨rs, S, _, _, hk, _⟩ | ⟨_, rfl⟩), hb9⟩; (first | exact absurd hk (HNO.out rs S) | skip); have HB9 := Lib.hid (HB8.out.trans (hb9.mono HB8.out.size)); clear hb9))
        go_ret
        exact ⟨rfl, HB9.out.alloc HB9.out.size _⟩
      obtain ⟨rs, S, hok⟩ := hok
      have HRF := Lib.hid (fun a c W (hW : Has W a (bytesV bs)) (k1 : nB ≤ c) (k2 : c ≤ maxLen) => show Calls Try.prog 12 #[.slice a nB c, .int .i64 40] W fun e w' => (∃ (a' : Option Addr) (c' : Nat), e = .returned (.tuple #[.agg (jrefV a nB c bs rs S a' c'), .bool true])) ∧ Below W.heap.size W w' from (refjread_any a nB c bs 40 40 rfl W hW HL.out k1 k2 hn2 (by decide) (by decide)).mono (by
        rintro e w' ⟨(⟨rs', S', a', c', hk, rfl, _⟩ | ⟨hn, _⟩), hb⟩
        · obtain ⟨e1, e2⟩ := hk.det hok
          subst e1 e2
          exact ⟨⟨a', c', rfl⟩, hb⟩
        · exact absurd hok (hn rs S)))
      unfold jrefV at HRF
      have HRUN := Lib.hid (fun (Bm gt gl : Nat) (a : Option Addr) (c : Nat) (W : World) (hT : JIs 0 Bm gt bs rs S W) (hG : GIs w.heap.size gl a c (newG ids) W) (hB : w.heap.size ≤ W.heap.size) (hgl : w.heap.size ≤ gl) => jrun_any 0 Bm gt bs 40 rs S w.heap.size gl a c (newG ids) W hT hok (by decide) (by decide) (Nat.zero_le _) hgl hG hB (newG_idsC HIW.out) (by rw [newG_length, HIL.out]; omega))
      have hid2 := fun hN => HID.out rs S hok hN (bs.drop (num bs 16 4)) (bs.drop (num bs 20 4)) (bs.drop (num bs 24 4)) (newG ids)
      have hnl : (newG ids).length = nI := by rw [newG_length]; exact HIL.out
      have HNL := Lib.hid hnl
      clear HID hnl
      refine (jread_some a6 nB c6 bs 40 40 rfl rs S w6 HH6.out HL.out (by omega) (by decide) (by decide) hok).mono ?_
      rintro e w7 ⟨gt, rfl, hT, hb7⟩
      have z7 := (hb7.block g5 l6).trans Z6.out
      have Z7 := Lib.hid z7
      have q7 := fun o => cell_of_heap z7 o
      have l7 := (Array.getElem?_eq_some_iff.1 z7).1
      have HT7 := Lib.hid hT
      have HB7 := Lib.hid (HB6.out.trans (hb7.mono HB6.out.size))
      have HE7 := Lib.hid (HE6.out.below hb7)
      clear hb7 hT q6 f6 l6 z7 hok
      generalize num bs 0 4 = P0 at *
      generalize num bs 4 4 = P4 at *
      generalize num bs 8 4 = P8 at *
      generalize num bs 12 4 = P12 at *
      generalize needE bs S = NE at *
      by_cases hN : nE < NE
      · have d1 : decide ((nE : Int) < (NE : Int)) = true := by simpa using hN
        clear hid2
        go_wp2_with (first
          | (go_at_call 20; (with_reducible refine (HWR.out w7 HB7.out a5 c5 HE7.out).mono ?_); rintro e w8 ⟨a8, c8, rfl, hown8, k81, k82, _, hb8⟩; have HH8 := Lib.hid (has_of_owns hown8); have HB8 := Lib.hid (HB7.out.trans (hb8.mono HB7.out.size)); have HT8 := Lib.hid (HT7.out.below hb8); have z8 := (hb8.block g5 l7).trans Z7.out; have Z8 := Lib.hid z8; have q8 := fun o => cell_of_heap z8 o; have l8 := (Array.getElem?_eq_some_iff.1 z8).1; clear hown8 hb8 z8)
          | (go_at_call 12; (with_reducible refine (HRF.out a8 c8 w8 HH8.out k81 k82).mono ?_); rintro e w9 ⟨⟨a9, c9, rfl⟩, hb9⟩; have HB9 := Lib.hid (HB8.out.trans (hb9.mono HB8.out.size)); have HT9 := Lib.hid (HT8.out.below hb9); have z9 := (hb9.block g5 l8).trans Z8.out; have q9 := fun o => cell_of_heap z9 o; have l9 := (Array.getElem?_eq_some_iff.1 z9).1; clear hb9 z9))
        go_ret
        exact ⟨rfl, HB9.out.alloc HB9.out.size _⟩
      have d1 : decide ((nE : Int) < (NE : Int)) = false := by simp; omega
      have hR := hid2 (by omega)
      clear hid2
      by_cases hSR : nR < S
      · have d2 : decide ((nR : Int) < (S : Int)) = true := by simpa using hSR
        clear hR
        go_wp2_with (first
          | (go_at_call 20; (with_reducible refine (HWR.out w7 HB7.out a5 c5 HE7.out).mono ?_); rintro e w8 ⟨a8, c8, rfl, hown8, k81, k82, _, hb8⟩; have HH8 := Lib.hid (has_of_owns hown8); have HB8 := Lib.hid (HB7.out.trans (hb8.mono HB7.out.size)); have HT8 := Lib.hid (HT7.out.below hb8); have z8 := (hb8.block g5 l7).trans Z7.out; have Z8 := Lib.hid z8; have q8 := fun o => cell_of_heap z8 o; have l8 := (Array.getElem?_eq_some_iff.1 z8).1; clear hown8 hb8 z8)
          | (go_at_call 12; (with_reducible refine (HRF.out a8 c8 w8 HH8.out k81 k82).mono ?_); rintro e w9 ⟨⟨a9, c9, rfl⟩, hb9⟩; have HB9 := Lib.hid (HB8.out.trans (hb9.mono HB8.out.size)); have HT9 := Lib.hid (HT8.out.below hb9); have z9 := (hb9.block g5 l8).trans Z8.out; have q9 := fun o => cell_of_heap z9 o; have l9 := (Array.getElem?_eq_some_iff.1 z9).1; clear hb9 z9))
        go_ret
        exact ⟨rfl, HB9.out.alloc HB9.out.size _⟩
      have d2 : decide ((nR : Int) < (S : Int)) = false := by simp; omega
      generalize ligD bs rs (bs.drop (num bs 16 4)) (bs.drop (num bs 20 4)) (bs.drop (num bs 24 4)) (newG ids) = RR at *
      obtain ⟨⟨R, _⟩, _, E⟩ := RR
      simp only at hR HRUN
      subst hR
      go_wp2_with (first
          | (go_at_call 20; (with_reducible refine (HWR.out w7 HB7.out a5 c5 HE7.out).mono ?_); rintro e w8 ⟨a8, c8, rfl, hown8, k81, k82, _, hb8⟩; have HH8 := Lib.hid (has_of_owns hown8); have HB8 := Lib.hid (HB7.out.trans (hb8.mono HB7.out.size)); have HT8 := Lib.hid (HT7.out.below hb8); have z8 := (hb8.block g5 l7).trans Z7.out; have Z8 := Lib.hid z8; have q8 := fun o => cell_of_heap z8 o; have l8 := (Array.getElem?_eq_some_iff.1 z8).1; clear hown8 hb8 z8)
          | (go_at_call 12; (with_reducible refine (HRF.out a8 c8 w8 HH8.out k81 k82).mono ?_); rintro e w9 ⟨⟨a9, c9, rfl⟩, hb9⟩; have HB9 := Lib.hid (HB8.out.trans (hb9.mono HB8.out.size)); have HT9 := Lib.hid (HT8.out.below hb9); have z9 := (hb9.block g5 l8).trans Z8.out; have q9 := fun o => cell_of_heap z9 o; have l9 := (Array.getElem?_eq_some_iff.1 z9).1; clear hb9 z9)
          | (go_at_call 13; (with_reducible refine (gnew_any aI nI cI ids _ (HI.out.below (HB9.out.alloc HB9.out.size _)) HIL.out (by omega)).mono ?_); rintro e w10 ⟨gx, ax, cx, rfl, hGx, hgx, hb10⟩; have hz9 := HB9.out.size; have HGX := Lib.hid (hGx.mono (show w.heap.size ≤ _ from by simp only [World.size_alloc]; omega)); have HT10 := Lib.hid ((HT9.out.below (balloc (brefl w9) _)).below hb10); have HB10 := Lib.hid ((HB9.out.alloc HB9.out.size _).trans (hb10.mono (show w.heap.size ≤ _ from by simp only [World.size_alloc]; omega))); have hgx0 : w.heap.size ≤ gx := (by simp only [World.size_alloc] at hgx; omega); clear hGx hgx hb10 hz9)
          | (go_at_call 14; (with_reducible refine (HRUN.out _ _ _ _ _ w10 HT10.out HGX.out HB10.out.size hgx0).mono ?_); rintro e w11 ⟨rfl, ⟨ax11, cx11, hG, _⟩, hk⟩; have HG11 := Lib.hid hG; have HB11 := Lib.hid (HB10.out.trans hk.below); clear hG hk)
          | (go_at_call 18; (with_reducible refine (gglyphs_any w.heap.size gx ax11 cx11 (newG ids) w11 HG11.out (by rw [HNL.out]; omega)).mono ?_); rintro e w12 ⟨a12, c12, rfl, ho, _, _, _, hb12⟩; have HH12 := Lib.hid (has_of_owns ho); have HB12 := Lib.hid (HB11.out.trans (hb12.mono HB11.out.size)); clear ho hb12)
          | (go_at_call 16; (with_reducible refine (refNewG_any aI nI cI ids w12 (HI.out.below HB12.out) HIL.out (by omega)).mono ?_); rintro e w13 ⟨a13, c13, rfl, ho, hb13⟩; have HH13 := Lib.hid (has_of_owns ho); have HH12' := Lib.hid (HH12.out.below hb13); have HB13 := Lib.hid (HB12.out.trans (hb13.mono HB12.out.size)); clear ho hb13)
          | (go_at_call 17; (with_reducible refine (refSameG_any _ _ (newG ids).length _ nI _ (newG ids) (newG ids) w13 HH12'.out rfl HH13.out HNL.out (by rw [HNL.out]; omega) (by omega)).mono ?_); rintro e w14 ⟨rfl, hb14⟩; rw [decide_eq_true rfl]; have HB14 := Lib.hid (HB13.out.trans (hb14.mono HB13.out.size)); clear hb14))
      go_ret
      exact ⟨rfl, HB14.out⟩

open Go.ChangeShapes Go.WideShapes Go.ChangeAt Go.RowKit
open Go.ChangeMaps (open_string shut_string)

set_option maxRecDepth 100000 in
theorem ligaIdle_walks (H : Type) (enc : TypeId × Value → H) : Walks H enc 5 [55, 23, 4] := by
  intro W base args ds p hval hA _
  obtain ⟨v0, vs0, d0, ds0, p0, q0, hargs, rfl, rfl, h0, r0⟩ := trodAll_cons hA
  obtain ⟨v1, vs1, d1, ds1, p1, q1, rfl, rfl, rfl, h1, r1⟩ := trodAll_cons r0
  obtain ⟨v2, vs2, d2, ds2, p2, q2, rfl, rfl, rfl, h2, r2⟩ := trodAll_cons r1
  obtain ⟨rfl, rfl, rfl⟩ := trodAll_nil r2
  obtain rfl : args = #[v0, v1, v2] := by cases args; simp_all
  obtain ⟨p, aC, aR, aE, rv, cC, cR, cE, aA, cA, acts, aK, cK, comps, aL, cL, ligs, rfl, hP, hw, hE, ⟨hAA, h32, _, _⟩, ⟨hK, h16⟩, hS, h17⟩ := open_plan17 (hval 0 55 v0 rfl rfl) h0
  obtain ⟨a, n, c, ids, rfl, hl, _, _, _, hi, hz⟩ := open_ids (hval 1 23 v1 rfl rfl) h1
  obtain ⟨f, rfl, _, _⟩ := open_bool Try.underlying4 (hval 2 4 v2 rfl rfl) h2
  exact ligaIdle_walk p aC aR aE rv cC cR cE aA cA acts aK cK comps aL cL ligs a n c ids f W hP hw hAA h32 hK h16 hS h17 hi hl hz hE

set_option maxRecDepth 100000 in
theorem ligaIdle_lifted (os : Os) (started : os.Started) (H : Type) (enc : TypeId × Value → H) :
    ReturnsInHanded {} Try.checked os 5 .any (Rows.ligaIdleSpec.pre6 enc Try.prog Try.f5 Rows.ligaIdleRow.domain false) (Rows.ligaIdleSpec.post enc Try.prog Try.f5 false true false false) :=
  lift_law (s := Rows.ligaIdleSpec) (fn := Try.f5) started (by kernel_rfl) Try.func5
    (ChangeSpec.witness6 (enc := enc) (C := Try.checked) false ⟨#[], #[.agg #[.slice none 0 0, .slice none 0 0, .slice none 0 0, .int .u8 0, .slice none 0 0, .slice none 0 0, .slice none 0 0], .slice none 0 0, .bool false], []⟩ 8 (by kernel_rfl) (by kernel_rfl) (by kernel_rfl) (by kernel_rfl))
    rfl rfl (fun ds h => by match ds, h with | [d0, d1, d2], _ => rfl) (by intro t ht; simp [Try.params5] at ht; first | (subst ht; exact ⟨by kernel_rfl, of_decide_eq_true (by kernel_rfl)⟩) | (obtain rfl | rfl := ht <;> exact ⟨by kernel_rfl, of_decide_eq_true (by kernel_rfl)⟩) | (obtain rfl | rfl | rfl := ht <;> exact ⟨by kernel_rfl, of_decide_eq_true (by kernel_rfl)⟩) | (obtain rfl | rfl | rfl | rfl := ht <;> exact ⟨by kernel_rfl, of_decide_eq_true (by kernel_rfl)⟩))
    (by rw [Try.params5]; exact ligaIdle_walks H enc)
theorem ligaIdle_over : Rows.ligaIdleRow.holds Try.pinned (OpenSpec.ofChange Rows.ligaIdleSpec) :=
  OpenClaim.holds_of_wide 5 Try.f5 rfl rfl rfl rfl rfl rfl rfl ⟨rfl, rfl, rfl, rfl, rfl⟩ rfl rfl rfl rfl rfl (by kernel_rfl) Try.func5 (by kernel_rfl)
    (of_decide_eq_true (by kernel_rfl)) (by unfold Func.isWrapper; first | (rw [if_pos (by decide +kernel)]; kernel_rfl) | (rw [if_neg (by decide +kernel)]; exact ⟨rfl, rfl⟩))
    (fun os started H enc _ => ligaIdle_lifted os started H enc)
theorem ligaIdle_proved : Rows.LigaIdleSaid := ligaIdle_over
#print axioms ligaIdle_proved
end Go.Proofs.Ythehcbbdkiomnaa
