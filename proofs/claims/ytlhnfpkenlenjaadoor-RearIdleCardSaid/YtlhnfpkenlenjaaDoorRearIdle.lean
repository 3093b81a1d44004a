
/- The walk of RearIdle. RearIdle returns true for every plan and every line, and changes nothing: without verbs, or without a row, the line stays as it is. Condition: the table of verbs lies in memory. -/
import Derived.Test.YtlhnfpkenlenjaaDoorJ19
import Derived.Test.YtlhnfpkenlenjaaDoorJ20
import Derived.Test.YtlhnfpkenlenjaaDoorJ18
import Derived.Test.YtlhnfpkenlenjaaDoorJ17
import Derived.Test.YtlhnfpkenlenjaaDoorTie
import Derived.Test.YtlhnfpkenlenjaaDoorCards
import Derived.SevenTiedAt
namespace Go.Proofs.YtlhnfpkenlenjaaDoor
open Go.RowKit Go.Lib

theorem MOk.s0 {bs : List UInt8} {glyphs k : Nat} {rs : List RP} {S : Nat} (h : MOk bs glyphs k rs S) : 0 < S := by
  have := h.least.closed.1
  omega
set_option maxRecDepth 100000 in
set_option maxHeartbeats 3200000 in
theorem rearIdle_walk (p : PlanL) (aC aR aE : Option Addr) (rv : List Value) (cC cR cE : Nat) (aI : Option Addr) (nI cI : Nat) (ids : List Int) (w : World) (h : PlanHas w p aC aR rv aE) (hwf : ∀ e ∈ p.ents, wfI e.1 ∧ wfI e.2.1 ∧ wfI e.2.2.1 ∧ wfI e.2.2.2) (hE0 : aE = none → cE = 0)
    (hI : Has w aI (iv ids)) (hIl : ids.length = nI) (hIw : ∀ z ∈ ids, -9223372036854775808 ≤ z ∧ z ≤ 9223372036854775807) (hV : VerbsIn w) (which : Bool) :
    Calls Tryd.prog 5 #[.agg #[.slice aC p.cls.length cC, .slice aR p.rows.length cR, .slice aE p.ents.length cE, .int .u8 (p.wide.toNat : Nat)], .slice aI nI cI, .bool which] w fun e w' => e = .returned (.bool true) ∧ Below w.heap.size w w' := by
  have hAC := allocC
  have hAF := allocF
  have HV := Lib.hid hV
  have HSP := Lib.hid (fun W (hW : Below w.heap.size w W) => speaks14_any W (hV.below hW))
  have HLIT := Lib.hid (fun (W : World) (o : Obj) => show ((W.alloc o).alloc (.cells #[] 55)).ownsRow (W.heap.size + 1) 55 4 (.slice (some ⟨W.heap.size + 1, 0, none⟩) 0 0) 0 [] from by
    have hz : (W.alloc o).heap.size = W.heap.size + 1 := by simp
    rw [← hz]
    exact World.ownsRow_lit (W.alloc o) #[] 0 (Nat.le_refl _) (by decide) rfl)
  by_cases hs : p.cls.length ≤ 40 ∧ p.rows.length ≤ 20 ∧ p.ents.length ≤ 40 ∧ nI ≤ 60
  case neg =>
    have HSM := Lib.hid (fun W => small14_no aC aR aE aI p.cls.length p.rows.length p.ents.length nI cC cR cE cI (p.wide.toNat : Nat) W hs)
    clear h hwf hI hs hV
    generalize p.cls.length = nC at *
    generalize p.rows.length = nR at *
    generalize p.ents.length = nE at *
    generalize p.wide.toNat = wy at *
    go_enter Tryd.func5, Tryd.ntmps5
    go_wp2_with (first | (go_at_call 8; (with_reducible refine (HSP.out _ (by exact blw)).mono ?_); rintro e w1 ⟨rfl, hb1⟩; have h1c := bc hb1; have h1f := bf hb1; have h1z := hb1.size; try simp only [World.size_alloc, World.size_drew] at h1z) | (go_at_call 9; (with_reducible refine (HSM.out _).mono ?_); rintro e w2 ⟨rfl, hb2⟩; have h2c := bc hb2; have h2f := bf hb2; have h2z := hb2.size; try simp only [World.size_alloc, World.size_drew] at h2z))
    go_ret
    exact ⟨rfl, blw⟩
  have HSM := Lib.hid (fun W => small14_yes aC aR aE aI p.cls.length p.rows.length p.ents.length nI cC cR cE cI (p.wide.toNat : Nat) W hs)
  obtain ⟨hs1, hs2, hs3, hs4⟩ := hs
  have hpn : 4 ≤ (p.idle which).n ∧ (p.idle which).n ≤ 11 := by unfold PlanL.n; omega
  have hlen : (planB (p.idle which) 0 0).length = 22 + 2 * p.cls.length + 2 * (p.rows.length * (p.idle which).n) + p.ents.length * 4 := by
    have := planB_length (p.idle which) 0 0 (by omega)
    simp only [PlanL.idle, List.length_map] at this ⊢
    omega
  have hmul : p.rows.length * (p.idle which).n ≤ 20 * 11 := Nat.mul_le_mul hs2 hpn.2
  have hSF := Lib.hid (idle_flags which p (by have := hmul; simp only [PlanL.idle, PlanL.n] at this ⊢; omega))
  obtain ⟨nB, hnB⟩ : ∃ nB, nB = (planB (p.idle which) 0 0).length := ⟨_, rfl⟩
  have hn2 : nB ≤ 2000 := by omega
  have HWR := Lib.hid (fun W (hW : Below w.heap.size w W) (a : Option Addr) (c : Nat) (hE : Has W a ((p.ents.map (idleE which)).flatMap entC4)) => by
    have hP := h.below hW
    have h5 : (p.idle which).ents.length ≤ 1000 := by simp only [PlanL.idle, List.length_map]; omega
    have := write_any (p.idle which) 0 0 0 0 rfl rfl aC aR a rv cC cR c W ⟨hP.cls, hP.rows, hP.rlen, hP.row, hE⟩ (by show p.cls.length ≤ 1000; omega) (by show p.rows.length ≤ 1000; omega) h5 (by omega) (by omega) (idle_wf which p.ents hwf)
    rw [show (p.idle which).ents.length = p.ents.length from by simp only [PlanL.idle, List.length_map], ← hnB] at this
    exact (show Calls Tryd.prog 10 #[.agg #[.slice aC p.cls.length cC, .slice aR p.rows.length cR, .slice a p.ents.length c, .int .u8 (p.wide.toNat : Nat)], .int .i64 0, .int .i64 0] W fun e w' => ∃ a' c', e = .returned (.slice a' nB c') ∧ w'.ownsRow W.heap.size 5 1 (.slice a' nB c') nB (bytesV (planB (p.idle which) 0 0)) ∧ nB ≤ c' ∧ c' ≤ maxLen ∧ (a' = none → c' = 0) ∧ Below W.heap.size W w' from this))
  obtain ⟨bs, hbs⟩ : ∃ bs, bs = planB (p.idle which) 0 0 := ⟨_, rfl⟩
  rw [← hbs] at HWR hSF hnB
  have HL := Lib.hid hnB.symm
  have HEN := Lib.hid h.ents
  have HI := Lib.hid hI
  have HE0 := Lib.hid hE0
  have HEL := Lib.hid (entC4_len p.ents)
  have HE1 := Lib.hid (entC4_one p.ents)
  have HST := Lib.hid (show idL which p.ents 0 = p.ents from idL_zero which _)
  have HSE := Lib.hid (idL_all which p.ents)
  have HIW := Lib.hid hIw
  have HIL := Lib.hid hIl
  obtain ⟨es, hes⟩ : ∃ es, es = p.ents := ⟨_, rfl⟩
  rw [← hes] at HWR HSM HEN HEL HE1 HSE HST hSF hs3 ⊢
  obtain ⟨nE, hnE⟩ : ∃ nE, nE = es.length := ⟨_, rfl⟩
  rw [← hnE] at HWR HSM HEL HSE hSF hs3 ⊢
  have HNE := Lib.hid hnE
  have HNR := Lib.hid (fun W (hW : Below w.heap.size w W) => refNewG_any aI nI cI ids W (hI.below hW) hIl (by omega))
  clear hV h hwf hI hE0 hIw hIl hlen hmul hnB hbs hes hpn hnE
  generalize p.cls.length = nC at *
  generalize p.rows.length = nR at *
  generalize p.wide.toNat = wy at *
  go_enter Tryd.func5, Tryd.ntmps5
  go_wp2_with (first
    | (go_at_call 8; (with_reducible refine (HSP.out _ (by exact blw)).mono ?_); rintro e w1 ⟨rfl, hb1⟩; have h1c := bc hb1; have h1f := bf hb1; have h1z := hb1.size; try simp only [World.size_alloc, World.size_drew] at h1z)
    | (go_at_call 9; (with_reducible refine (HSM.out _).mono ?_); rintro e w2 ⟨rfl, hb2⟩; have h2c := bc hb2; have h2f := bf hb2; have h2z := hb2.size; try simp only [World.size_alloc, World.size_drew] at h2z)
    | (at_builtin; refine wpApp rfl _ _ 24 rfl (w2.heap.size + 1) 55 (.agg #[.int .i64 0, .int .i64 0, .int .i64 0, .int .i64 0]) 4 32 Tryd.underlying24 info_entry rfl (by decide) _ 0 [] rfl (HLIT.out w2 _) aE nE cE (es.flatMap entC4) rfl HEL.out (HEN.out.below (by exact blw)) HE0.out HE1.out (by unfold maxLen; omega) (by omega) (by simp) ?_; intro a5 c5 w5 hown5 k51 k52 k53 hb5 hg5; rw [Nat.zero_add] at *; rw [List.nil_append] at hown5; have HO5 := Lib.hid hown5; have z5 : w5.heap[w2.heap.size]? = some (.cells #[.slice aC nC cC, .slice aR nR cR, .slice aE nE cE, .int .u8 (wy : Nat)] 26 (0, 0)) := (hb5.block w2.heap.size (by omega)).trans (by rw [heap_push, if_neg (by simp), heap_push, if_pos rfl]); have q5 := fun o => cell_of_heap z5 o; have f5 := fun o => froz_of_heap z5 o; have l5 := (Array.getElem?_eq_some_iff.1 z5).1; have Z5 := Lib.hid z5; have HB5 := Lib.hid hb5; clear hown5 hg5 k53 hb5 z5))
  obtain ⟨X, hX⟩ : ∃ X, X = w5.setCell ⟨w2.heap.size, 2, none⟩ (.slice a5 nE c5) := ⟨_, rfl⟩
  have zX : X.heap[w2.heap.size]? = some (.cells #[.slice aC nC cC, .slice aR nR cR, .slice a5 nE c5, .int .u8 (wy : Nat)] 26 (0, 0)) := by rw [hX]; exact set_heap_at _ Z5.out
  have hB2 : Below w.heap.size w w2 := by exact blw
  have HB2 := Lib.hid hB2
  have HBX := Lib.hid (show Below w.heap.size w X from by
    rw [hX]
    exact (((hB2.alloc hB2.size _).alloc (by have := hB2.size; simp; omega) _).trans (HB5.out.mono (by have := hB2.size; omega))).setCell (p := ⟨w2.heap.size, 2, none⟩) hB2.size _)
  have HOX := Lib.hid (show X.ownsRow (w2.heap.size + 1) 55 4 (.slice a5 nE c5) nE (es.flatMap entC4) from by rw [hX]; exact set_owns (o := 2) _ HO5.out (own_neE HO5.out Z5.out (by decide)))
  have ZX := Lib.hid zX
  have hw2 := hB2.size
  have hgX : w2.heap.size < X.heap.size := (Array.getElem?_eq_some_iff.1 zX).1
  rw [← hX]
  clear hX hB2 zX q5 f5 l5 HO5 HB5 Z5 hb1 hb2 h1c h1f h1z h2c h2f h2z HSP HSM
  generalize w2.heap.size = g5 at *
  go_loopw [30] (fun i wr => ∃ j : Nat, j ≤ nE ∧ i = .int .i64 (j : Nat) ∧ wr.ownsRow (g5 + 1) 55 4 (.slice a5 nE c5) nE ((idL which es j).flatMap entC4) ∧ Below (g5 + 1) X wr) (fun i _ => nE - (RowKit.intOf i).toNat)
  case atStart => exact ⟨0, Nat.zero_le _, rfl, by rw [HST.out]; exact HOX.out, Below.refl _ _⟩
  case round =>
    obtain ⟨j, hj, rfl, hx, hb⟩ := hrel
    have HX := Lib.hid hx
    have HB := Lib.hid hb
    have zr := (hb.block g5 (by omega)).trans ZX.out
    have ZR := Lib.hid zr
    have qr := fun o => cell_of_heap zr o
    have fr := fun o => froz_of_heap zr o
    have lr := (Array.getElem?_eq_some_iff.1 zr).1
    clear hx hb zr
    by_cases hlt : j < nE
    · obtain ⟨e, he⟩ : ∃ e, es[j]? = some e := ⟨_, List.getElem?_eq_getElem (by rw [← HNE.out]; exact hlt)⟩
      obtain ⟨gE, csE, uE, haE, hgE, hhE, hcE, _, hfE, hsE⟩ := row_at HX.out (j * 4 + 1) (by omega)
      subst haE
      have hu := (HX.out.cellAt (j * 4 + 1) (by omega)).trans (entC4_flag _ j e ((idL_get which es j).trans he))
      have hs' := hsE (.int .i64 (idleF which e.2.1))
      rw [entC4_set _ j _ e ((idL_get which es j).trans he), idL_set which es j e he] at hs'
      have HS := Lib.hid hs'
      have HBS := Lib.hid (HB.out.setCell (p := ⟨gE, j * 4 + 1, none⟩) hgE (.int .i64 (idleF which e.2.1)))
      have lE := cell_lt hu
      simp only at lE
      clear hsE hs' he hhE hcE
      cases which with
      | true =>
        have hOR : bits .and .i64 e.2.1 65520 = idleF true e.2.1 := rfl
        generalize e.2.1 = z at *
        generalize idleF true z = z' at *
        go_wp2_with fail
        go_roundw
        case rel => exact ⟨j + 1, hlt, by go_num, HS.out, HBS.out⟩
        case measure => simp only [RowKit.intOf]; omega
      | false =>
        have hOR : bits .andNot .i64 e.2.1 8192 = idleF false e.2.1 := rfl
        generalize e.2.1 = z at *
        generalize idleF false z = z' at *
        go_wp2_with fail
        go_roundw
        case rel => exact ⟨j + 1, hlt, by go_num, HS.out, HBS.out⟩
        case measure => simp only [RowKit.intOf]; omega
    · obtain rfl : nE = j := by omega
      go_wp2_with fail
      have hxx := HX.out
      rw [HSE.out] at hxx
      have HBW := Lib.hid (HBX.out.trans (HB.out.mono (by have := HBX.out.size; omega)))
      refine (HWR.out wr HBW.out a5 c5 (has_of_owns hxx)).mono ?_
      rintro e w6 ⟨a6, c6, rfl, hown6, k61, k62, k63, hb6⟩
      have HH6 := Lib.hid (has_of_owns hown6)
      have HB6 := Lib.hid (HBW.out.trans (hb6.mono HBW.out.size))
      have z6 := (hb6.block g5 lr).trans ZR.out
      have Z6 := Lib.hid z6
      have hw6 := HB6.out.size
      have l6 := (Array.getElem?_eq_some_iff.1 z6).1
      clear hxx hown6 hb6 z6 qr fr lr ZR HX HB HBW HWR HBX HOX ZX hgX HST HSE HEL HE1 HE0 HEN HNE HLIT k63 hw2 HB2
      by_cases hok : ∃ rs S, MOk bs 40 0 rs S
      case neg =>
        have HRD := Lib.hid (fun W (hW : Below w6.heap.size w6 W) => rread_none a6 nB c6 bs 40 40 rfl W (HH6.out.below hW) HL.out k61 k62 (by decide) (by decide) (fun rs S hr => hok ⟨rs, S, hr⟩))
        have HRF := Lib.hid (fun W (hW : Below w6.heap.size w6 W) => (refM_any a6 nB c6 bs 40 0 40 0 rfl rfl W (HH6.out.below hW) HL.out k61 k62 hn2 (by decide) (by decide) (by decide)).mono (R' := fun e w' => e = .returned (.tuple #[.agg #[.slice none 0 0, .int .i64 0, .int .i64 0, .int .i64 0, .int .i64 0, .int .i64 0, .int .i64 0, .slice none 0 0, .slice none 0 0], .bool false]) ∧ Below W.heap.size W w') (by
          rintro e w' ⟨⟨rs, S, _, _, hr, _⟩ | ⟨_, he⟩, hb⟩
          · exact absurd ⟨rs, S, hr⟩ hok
          · exact ⟨he, hb⟩))
        clear hok
        go_wp2_with (first
          | (go_at_call 11; (with_reducible refine (HRD.out _ (brefl _)).mono ?_); rintro e w7 ⟨rfl, hb7⟩; have HB7 := Lib.hid hb7; have HBW7 := Lib.hid (HB6.out.trans (hb7.mono hw6)); clear hb7)
          | (go_at_call 12; (with_reducible refine (HRF.out _ HB7.out).mono ?_); rintro e w8 ⟨rfl, hb8⟩; have HB8 := Lib.hid (HBW7.out.trans (hb8.mono HBW7.out.size)); clear hb8))
        go_ret
        exact ⟨rfl, HB8.out.alloc HB8.out.size _⟩
      obtain ⟨rs, S, hok⟩ := hok
      have hS6 := hok.s6 (by rw [HL.out]; exact hn2)
      obtain ⟨N, hN⟩ : ∃ N, N = needE bs S := ⟨_, rfl⟩
      have HOK := Lib.hid hok
      have HRD := Lib.hid (fun W (hW : Below w6.heap.size w6 W) => rread_some a6 nB c6 bs 40 40 rfl rs S W (HH6.out.below hW) HL.out k61 k62 (by decide) (by decide) hok)
      have HRF := Lib.hid (fun W (hW : Below w6.heap.size w6 W) => (refM_any a6 nB c6 bs 40 0 40 0 rfl rfl W (HH6.out.below hW) HL.out k61 k62 hn2 (by decide) (by decide) (by decide)).mono (R' := fun e w' => (∃ (C R E : Nat) (k : Int) (aT : Option Addr) (nT cT : Nat) (a' : Option Addr) (L c' : Nat), e = .returned (.tuple #[.agg #[.slice a6 nB c6, .int .i64 (C : Nat), .int .i64 (R : Nat), .int .i64 (E : Nat), .int .i64 (S : Nat), .int .i64 (N : Nat), .int .i64 k, .slice aT nT cT, .slice a' L c'], .bool true])) ∧ Below W.heap.size W w') (by
        rintro e w' ⟨⟨rs', S', a', c', hr, he⟩ | ⟨hno, _⟩, hb⟩
        · obtain ⟨rfl, rfl⟩ := hok.det hr
          refine ⟨⟨num bs 0 4, num bs 8 4, num bs 12 4, ((0 : Nat) : Int), adv a6 c6 (num bs 4 4), nB - num bs 4 4, c6 - num bs 4 4, a', rs.length, c', ?_⟩, hb⟩
          rw [he, hN]
          rfl
        · exact absurd hok (hno rs S)))
      clear hok
      have HBB := Lib.hid (fun W (hW : Below w6.heap.size w6 W) => HB6.out.trans (hW.mono hw6))
      by_cases hg1 : nE < N
      · have d1 : decide ((nE : Int) < (N : Int)) = true := by simp; omega
        clear hN
        go_wp2_with (first
          | (go_at_call 11; (with_reducible refine (HRD.out _ (brefl _)).mono ?_); rintro e w7 ⟨g7, rfl, hM7, hb7⟩; have HB7 := Lib.hid hb7; have HM7 := Lib.hid hM7; have hz7 := hb7.size; clear hb7 hM7)
          | (go_at_call 12; (with_reducible refine (HRF.out _ HB7.out).mono ?_); rintro e w8 ⟨⟨C, R, E, k, aT, nT, cT, aL, L, cL, rfl⟩, hb8⟩; have HB8 := Lib.hid (HB7.out.trans (hb8.mono hz7)); have z8 := (HB8.out.block g5 l6).trans Z6.out; have q8 := fun o => cell_of_heap z8 o; have l8 := (Array.getElem?_eq_some_iff.1 z8).1; clear hb8 z8))
        go_ret
        exact ⟨rfl, (HBB.out _ HB8.out).alloc (by have := (HBB.out _ HB8.out).size; omega) _⟩
      have d1 : decide ((nE : Int) < (N : Int)) = false := by simp; omega
      by_cases hg2 : nR < S
      · have d2 : decide ((nR : Int) < (S : Int)) = true := by simp; omega
        clear hN
        go_wp2_with (first
          | (go_at_call 11; (with_reducible refine (HRD.out _ (brefl _)).mono ?_); rintro e w7 ⟨g7, rfl, hM7, hb7⟩; have HB7 := Lib.hid hb7; have HM7 := Lib.hid hM7; have hz7 := hb7.size; clear hb7 hM7)
          | (go_at_call 12; (with_reducible refine (HRF.out _ HB7.out).mono ?_); rintro e w8 ⟨⟨C, R, E, k, aT, nT, cT, aL, L, cL, rfl⟩, hb8⟩; have HB8 := Lib.hid (HB7.out.trans (hb8.mono hz7)); have HB78 := Lib.hid hb8; have hz8 := hb8.size; have z8 := (HB8.out.block g5 l6).trans Z6.out; have q8 := fun o => cell_of_heap z8 o; have l8 := (Array.getElem?_eq_some_iff.1 z8).1; clear hb8 z8))
        go_ret
        exact ⟨rfl, (HBB.out _ HB8.out).alloc (by have := (HBB.out _ HB8.out).size; omega) _⟩
      have d2 : decide ((nR : Int) < (S : Int)) = false := by simp; omega
      have HNW := Lib.hid (fun W (hW : Below w6.heap.size w6 W) => gnew_any aI nI cI ids W (HI.out.below (HBB.out W hW)) HIL.out (by omega))
      have hid : (rearD bs rs (newG ids)).1.1 = newG ids := rearD_idle which HOK.out HOK.out.s0 (fun j hj => hSF.out j (by omega)) (newG ids)
      have HRUN := Lib.hid (fun (Bm gt gl : Nat) (a : Option Addr) (c : Nat) (W : World) (hT : TIs Bm gt bs rs S W) (hG : GIs w.heap.size gl a c (newG ids) W) (hV : VerbsIn W) (hB : w.heap.size ≤ W.heap.size) (hBl : w.heap.size ≤ gl) (hVB : 0 < w.heap.size) => rrun_new w.heap.size gt gl bs rs S a c ids W (Bm := Bm) hT HOK.out (by rw [HL.out]; exact hn2) hG hV hB hBl hVB HIW.out (by rw [HIL.out]; omega))
      rw [hid] at HRUN
      have hLn : (newG ids).length = nI := (newG_length ids).trans HIL.out
      generalize (rearD bs rs (newG ids)).2.2 = r4 at *
      generalize newG ids = L at *
      clear hN hSF hid
      go_wp2_with (first
          | (go_at_call 11; (with_reducible refine (HRD.out _ (brefl _)).mono ?_); rintro e w7 ⟨g7, rfl, hM7, hb7⟩; have HB7 := Lib.hid hb7; have HM7 := Lib.hid hM7; have hz7 := hb7.size; clear hb7 hM7)
          | (go_at_call 12; (with_reducible refine (HRF.out _ HB7.out).mono ?_); rintro e w8 ⟨⟨C, R, E, k, aT, nT, cT, aL, LL, cL, rfl⟩, hb8⟩; have HB8 := Lib.hid (HB7.out.trans (hb8.mono hz7)); have HM8 := Lib.hid (HM7.out.below hb8); have z8 := (HB8.out.block g5 l6).trans Z6.out; have q8 := fun o => cell_of_heap z8 o; have l8 := (Array.getElem?_eq_some_iff.1 z8).1; clear hb8 z8)
          | (go_at_call 13; (with_reducible refine (HNW.out _ (HB8.out.alloc HB8.out.size _)).mono ?_); rintro e w9 ⟨g9, a9, c9, rfl, hG9, hg9, hb9⟩; have hb89 := (balloc (brefl w8) _).trans (hb9.mono (by simp)); have HM9 := Lib.hid (HM8.out.below hb89); have HBW8 := Lib.hid (HBB.out _ HB8.out); have HB9 := Lib.hid (HBW8.out.trans (hb89.mono HBW8.out.size)); have hgl9 : w.heap.size ≤ g9 := (by have := HBW8.out.size; simp only [World.size_alloc] at hg9; omega); have HG9 := Lib.hid (hG9.mono (show w.heap.size ≤ _ from by have := HBW8.out.size; simp only [World.size_alloc]; omega)); clear hG9 hg9 hb9 hb89)
          | (go_at_call 14; (with_reducible refine (HRUN.out _ _ _ _ _ _ HM9.out HG9.out (HV.out.below HB9.out) HB9.out.size hgl9 HV.out.lt).mono ?_); rintro e w10 ⟨rfl, ⟨a10, c10, hG, _⟩, hk10⟩; have HG10 := Lib.hid hG; have HB10 := Lib.hid (HB9.out.trans hk10.below); clear hG hk10)
          | (go_at_call 18; (with_reducible refine (gglyphs_any w.heap.size g9 a10 c10 _ w10 HG10.out (by simp only [hLn]; omega)).mono ?_); rintro e w11 ⟨a11, c11, rfl, ho, _, _, _, hb11⟩; have HH11 := Lib.hid (has_of_owns ho); have HB11 := Lib.hid (HB10.out.trans (hb11.mono HB10.out.size)); clear ho hb11)
          | (go_at_call 16; (with_reducible refine (HNR.out w11 HB11.out).mono ?_); rintro e w12 ⟨a12, c12, rfl, ho, hb12⟩; have HH12 := Lib.hid (has_of_owns ho); have HB12 := Lib.hid (HB11.out.trans (hb12.mono HB11.out.size)); have HH11' := Lib.hid (HH11.out.below hb12); clear ho hb12)
          | (go_at_call 17; (with_reducible refine (refSameG_any _ _ nI _ nI _ L L w12 HH11'.out hLn HH12.out hLn (by omega) (by omega)).mono ?_); rintro e w13 ⟨rfl, hb13⟩; rw [decide_eq_true rfl]; have HB13 := Lib.hid (HB12.out.trans (hb13.mono HB12.out.size)); clear hb13))
      go_ret
      exact ⟨rfl, HB13.out⟩

open Go.ChangeShapes Go.WideShapes Go.ChangeAt Go.RowKit
open Go.ChangeMaps (open_string shut_string)

set_option maxRecDepth 100000 in
theorem rearIdle_walks (H : Type) (enc : TypeId × Value → H) : WalksV H enc 5 [26, 27, 4] := by
  intro W base args ds p hV hval hA _
  obtain ⟨v0, vs0, d0, ds0, p0, q0, hargs, rfl, rfl, h0, r0⟩ := trodAll_cons hA
  obtain ⟨v1, vs1, d1, ds1, p1, q1, rfl, rfl, rfl, h1, r1⟩ := trodAll_cons r0
  obtain ⟨v2, vs2, d2, ds2, p2, q2, rfl, rfl, rfl, h2, r2⟩ := trodAll_cons r1
  obtain ⟨rfl, rfl, rfl⟩ := trodAll_nil r2
  obtain rfl : args = #[v0, v1, v2] := by cases args; simp_all
  obtain ⟨p, aC, aR, aE, rv, cC, cR, cE, rfl, hP, hw, hE0⟩ := open_plan0 (hval 0 26 v0 rfl rfl) h0
  obtain ⟨a, n, c, ids, rfl, hl, _, _, _, hi, hz⟩ := open_ids (hval 1 27 v1 rfl rfl) h1
  obtain ⟨f, rfl, _, _⟩ := open_bool Tryd.underlying4 (hval 2 4 v2 rfl rfl) h2
  exact rearIdle_walk p aC aR aE rv cC cR cE a n c ids W hP hw hE0 hi hl hz hV f

set_option maxRecDepth 100000 in
theorem rearIdle_lifted (os : Os) (started : os.Started) (H : Type) (enc : TypeId × Value → H) :
    ReturnsInHanded {} Tryd.checked os 5 .any (fun w args => (Rows.rearIdleSpec.pre enc Tryd.checked.prog Tryd.f5 [] false w args ∧ laidMetH Tryd.prog laidV w) ∧ sizedMet enc Tryd.checked.prog Tryd.f5 (OpenSpec.ofChange Rows.rearIdleSpec) false w args) (Rows.rearIdleSpec.post enc Tryd.checked.prog Tryd.f5 false true false false) :=
  lift_laid (s := Rows.rearIdleSpec) (fn := Tryd.f5) started (by kernel_rfl) Tryd.func5
    (ChangeSpec.witness_shaped (enc := enc) (C := Tryd.checked) (os := os) (X := fun w _ => laidMetH Tryd.prog laidV w) false (World.doorLaid Tryd.prog 400 os) #[.agg #[.slice none 0 0, .slice none 0 0, .slice none 0 0, .int .u8 0], .slice none 0 0, .bool false] 8 rfl (World.shaped_of_RefB (by kernel_rfl) (by kernel_rfl)) (by kernel_rfl) (by kernel_rfl) (by kernel_rfl) (door_met os _))
    rfl rfl (fun ds h => by match ds, h with | [d0, d1, d2], _ => rfl) (by intro t ht; simp [Tryd.params5] at ht; first | (subst ht; exact ⟨by kernel_rfl, of_decide_eq_true (by kernel_rfl)⟩) | (obtain rfl | rfl := ht <;> exact ⟨by kernel_rfl, of_decide_eq_true (by kernel_rfl)⟩) | (obtain rfl | rfl | rfl := ht <;> exact ⟨by kernel_rfl, of_decide_eq_true (by kernel_rfl)⟩) | (obtain rfl | rfl | rfl | rfl := ht <;> exact ⟨by kernel_rfl, of_decide_eq_true (by kernel_rfl)⟩))
    (by rw [Tryd.params5]; exact rearIdle_walks H enc)
theorem rearIdle_over : Rows.rearIdleRow.holds Tryd.pinned (OpenSpec.ofChange Rows.rearIdleSpec) :=
  OpenClaim.holds_of_wide 5 Tryd.f5 rfl rfl rfl rfl rfl rfl rfl ⟨rfl, rfl, rfl, rfl, rfl⟩ rfl rfl rfl rfl rfl (by kernel_rfl) Tryd.func5 (by kernel_rfl)
    (of_decide_eq_true (by kernel_rfl)) (by unfold Func.isWrapper; first | (rw [if_pos (by decide +kernel)]; kernel_rfl) | (rw [if_neg (by decide +kernel)]; exact ⟨rfl, rfl⟩))
    (fun os started H enc _ => rearIdle_lifted os started H enc)
theorem rearIdle_proved : Rows.RearIdleCardSaid :=
  Claim7.holds_tied_plain_at .later [] [.data] true (true, "8373405fcbf2cee226382fee390bd7ba0b61dd52971eae1a3fd12d45f8928637") true
    rearIdle_over (fun _ h => by cases h) (by kernel_rfl) (fun _ h => by cases h) rearIdle_row_tie rfl ⟨rfl, rfl⟩ (by kernel_rfl) rfl
    (fun f fn hf hfn => by
      obtain rfl : f = 5 := Option.some.inj ((show Tryd.prog.funcNamed "swash/swashlaw14.RearIdle" = some 5 by kernel_rfl).symm.trans hf) |>.symm
      obtain rfl : fn = Tryd.f5 := (Option.some.inj (Tryd.func5.symm.trans hfn)).symm
      exact ⟨by kernel_rfl, fun j t ht => by
        have hall : (Tryd.f5.params.toList.all fun u => !Tryd.prog.wantsStandIn u) = true := by kernel_rfl
        have hm : t ∈ Tryd.f5.params.toList := Array.mem_toList_iff.2 (Array.mem_of_getElem? ht)
        exact (show Tryd.prog.wantsStandIn t = false by simpa using List.all_eq_true.1 hall t hm)⟩)
    (by kernel_rfl)
#print axioms rearIdle_proved
end Go.Proofs.YtlhnfpkenlenjaaDoor
