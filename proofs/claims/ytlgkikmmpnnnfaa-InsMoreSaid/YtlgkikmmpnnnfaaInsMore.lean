
/- The walk of InsMore. InsMore returns true for every plan of a machine and list, every line, and every number, and changes nothing: a Run that may put so many puts no more, the line is longer by as many as it says, and the line's own glyphs stay, in order. No condition beside the row's own. -/
import Derived.Test.YtlgkikmmpnnnfaaJ01
import Derived.Test.YtlgkikmmpnnnfaaJ19
import Derived.Test.YtlgkikmmpnnnfaaJ20
import Derived.Test.YtlgkikmmpnnnfaaJ13
namespace Go.Proofs.Ytlgkikmmpnnnfaa
open Go.RowKit Go.Lib

def ownI (n : Nat) : List Int := (List.range n).map fun i => 70000 + ((i : Nat) : Int)
theorem ownI_length (n : Nat) : (ownI n).length = n := by simp [ownI]
theorem ownI_snoc (j : Nat) : ownI j ++ [70000 + ((j : Nat) : Int)] = ownI (j + 1) := by simp [ownI, List.range_succ]
theorem ownI_get {n j : Nat} (h : j < n) : (ownI n)[j]? = some (70000 + ((j : Nat) : Int)) := by simp [ownI, h]
theorem ownI_wide {n : Nat} (h : n ≤ 40) : ∀ z ∈ ownI n, -9223372036854775808 ≤ z ∧ z ≤ 9223372036854775807 := by
  intro z hz
  obtain ⟨i, hi, rfl⟩ := List.mem_map.1 hz
  have := List.mem_range.1 hi
  omega
def ownT (p : Int × Int) : Bool := decide (70000 ≤ p.1)
theorem newG_ownI (n : Nat) : (newG (ownI n)).filter ownT = newG (ownI n) := List.filter_eq_self.2 fun p hp => by
  obtain ⟨j, hj⟩ := List.mem_iff_getElem?.1 hp
  have hlt := (List.getElem?_eq_some_iff.1 hj).1
  rw [newG_length, ownI_length] at hlt
  rw [newG_get, ownI_get hlt] at hj
  injection hj with hj
  subst hj
  show decide ((70000 : Int) ≤ 70000 + (j : Int)) = true
  simp
  omega
theorem filter_at {α : Type} {f : α → Bool} {l : List α} {j : Nat} {p : α} (h : l[j]? = some p) (hf : f p = true) : (l.filter f)[((l.take j).filter f).length]? = some p := by
  obtain ⟨hlt, he⟩ := List.getElem?_eq_some_iff.1 h
  have hs : l = l.take j ++ p :: l.drop (j + 1) := by rw [← he]; simp
  have h2 : l.filter f = (l.take j).filter f ++ p :: (l.drop (j + 1)).filter f := by
    have := congrArg (List.filter f) hs
    rw [List.filter_append, List.filter_cons_of_pos hf] at this
    exact this
  rw [h2, List.getElem?_append_right (Nat.le_refl _), Nat.sub_self]
  rfl
theorem take_filter {α : Type} {f : α → Bool} {l : List α} {j : Nat} {p : α} (h : l[j]? = some p) : ((l.take (j + 1)).filter f).length = ((l.take j).filter f).length + (if f p = true then 1 else 0) := by
  obtain ⟨hlt, he⟩ := List.getElem?_eq_some_iff.1 h
  rw [List.take_add_one, h, List.filter_append, List.length_append]
  by_cases hf : f p = true
  · simp [hf]
  · simp [hf]
/-- A glyph of the line's own stands where its number says. -/
theorem own_at {l : List (Int × Int)} {n j : Nat} {p : Int × Int} (h : l.filter ownT = newG (ownI n)) (hp : l[j]? = some p) (hf : 70000 ≤ p.1) : ((l.take j).filter ownT).length < n ∧ p = (70000 + ((((l.take j).filter ownT).length : Nat) : Int), ((((l.take j).filter ownT).length : Nat) : Int)) := by
  have h1 := filter_at (f := ownT) hp (by simpa [ownT] using hf)
  rw [h] at h1
  have hlt := (List.getElem?_eq_some_iff.1 h1).1
  rw [newG_length, ownI_length] at hlt
  rw [newG_get, ownI_get hlt] at h1
  injection h1 with h1
  exact ⟨hlt, h1.symm⟩
set_option maxRecDepth 100000 in
set_option maxHeartbeats 12800000 in
theorem insMore_walk (p : PlanL) (aC aR aE : Option Addr) (rv : List Value) (cC cR cE : Nat) (aL : Option Addr) (cL : Nat) (list : List Nat) (aI : Option Addr) (nI cI : Nat) (ids : List Int) (lk : Nat) (w : World) (hP : PlanHas w p aC aR rv aE) (hw : ∀ e ∈ p.ents, wfI e.1 ∧ wfI e.2.1 ∧ wfI e.2.2.1 ∧ wfI e.2.2.2)
    (hS : Has w aL (u16V list)) (h16 : ∀ x ∈ list, x ≤ 65535) (hi : Has w aI (iv ids)) (hil : ids.length = nI) (hiw : ∀ z ∈ ids, -9223372036854775808 ≤ z ∧ z ≤ 9223372036854775807) (hlk : lk ≤ 255) :
    Calls Try.prog 9 #[.agg #[.slice aC p.cls.length cC, .slice aR p.rows.length cR, .slice aE p.ents.length cE, .int .u8 (p.wide.toNat : Nat), .slice aL list.length cL], .slice aI nI cI, .int .u8 (lk : Nat)] w fun e w' => e = .returned (.bool true) ∧ Below w.heap.size w w' := by
  have hAC := allocC
  have hAF := allocF
  have HSP := Lib.hid (fun W (_ : Below w.heap.size w W) => speaks18_any W)
  have hsm := fun W (_ : Below w.heap.size w W) => small18_any aC aR aE aL aI p.cls.length p.rows.length p.ents.length list.length nI cC cR cE cL cI (p.wide.toNat : Int) W
  have HI := Lib.hid hi
  have HIL := Lib.hid hil
  have HIW := Lib.hid hiw
  by_cases hs : Sm18 p.cls.length p.rows.length p.ents.length list.length nI
  case neg =>
    have HSM := Lib.hid (fun W (hW : Below w.heap.size w W) => (hsm W hW).mono (R' := fun e w' => e = .returned (.bool false) ∧ Below W.heap.size W w') (by
      rintro e w' ⟨⟨b, rfl, hb⟩, hb2⟩
      refine ⟨?_, hb2⟩
      cases b with
      | false => rfl
      | true => exact absurd (hb.1 rfl) hs))
    clear hsm hs hP hw hS h16 hi hil hiw
    generalize p.cls.length = nC at *
    generalize p.rows.length = nR at *
    generalize p.ents.length = nE at *
    generalize list.length = nL at *
    generalize (p.wide.toNat : Int) = wd at *
    go_enter Try.func9, Try.ntmps9
    go_wp2_with (first | (go_at_call 30; (with_reducible refine (HSP.out _ (by exact blw)).mono ?_); rintro e w1 ⟨rfl, hb1⟩; have h1c := bc hb1; have h1f := bf hb1; have h1z := hb1.size; try simp only [World.size_alloc, World.size_drew] at h1z) | (go_at_call 31; (with_reducible refine (HSM.out _ (by exact blw)).mono ?_); rintro e w2 ⟨rfl, hb2⟩; have h2c := bc hb2; have h2f := bf hb2; have h2z := hb2.size; try simp only [World.size_alloc, World.size_drew] at h2z))
    go_ret
    exact ⟨rfl, blw⟩
  have HSM := Lib.hid (fun W (hW : Below w.heap.size w W) => (hsm W hW).mono (R' := fun e w' => e = .returned (.bool true) ∧ Below W.heap.size W w') (by
    rintro e w' ⟨⟨b, rfl, hb⟩, hb2⟩
    refine ⟨?_, hb2⟩
    rw [hb.2 hs]))
  obtain ⟨hs1, hs2, hs3, hs4, hs7⟩ := hs
  have HWR := Lib.hid (fun W (hW : Below w.heap.size w W) => write18_any p aC aR aE rv cC cR cE aL list.length cL list W (hP.below hW) (by omega) (by omega) (by omega) hw (hS.below hW) rfl (by omega) h16)
  have hn2 : (insB p list).length ≤ 100000 := by
    have h1 := insB_length (p := p) list
    have h2 := planL2 (p := p)
    have h3 : p.n ≤ 11 := by unfold PlanL.n; omega
    have h4 : p.rows.length * p.n ≤ 220 := Nat.le_trans (Nat.mul_le_mul hs2 h3) (by decide)
    omega
  generalize hbs : insB p list = bs at *
  obtain ⟨nB, hnB⟩ : ∃ nB, nB = bs.length := ⟨_, rfl⟩
  rw [← hnB] at HWR hn2
  have HL := Lib.hid hnB.symm
  clear hsm hs1 hs2 hs3 hs4 hP hw hS h16 hi hil hiw hbs hnB
  generalize p.cls.length = nC at *
  generalize p.rows.length = nR at *
  generalize p.ents.length = nE at *
  generalize list.length = nL at *
  generalize (p.wide.toNat : Int) = wd at *
  by_cases hok : ∃ rs S, IOk bs 40 rs S
  case neg =>
    have hno : ∀ rs S, ¬ IOk bs 40 rs S := fun rs S h => hok ⟨rs, S, h⟩
    have HRD := Lib.hid (fun a c W (hW : Has W a (bytesV bs)) => iread_none a nB c bs 40 40 rfl W hW HL.out (by omega) (by decide) (by decide) hno)
    clear hok hno
    go_enter Try.func9, Try.ntmps9
    go_wp2_with (first
      | (go_at_call 30; (with_reducible refine (HSP.out _ (by exact blw)).mono ?_); rintro e w1 ⟨rfl, hb1⟩; have h1c := bc hb1; have h1f := bf hb1; have h1z := hb1.size; try simp only [World.size_alloc, World.size_drew] at h1z)
      | (go_at_call 31; (with_reducible refine (HSM.out _ (by exact blw)).mono ?_); rintro e w2 ⟨rfl, hb2⟩; have h2c := bc hb2; have h2f := bf hb2; have h2z := hb2.size; try simp only [World.size_alloc, World.size_drew] at h2z)
      | (go_at_call 33; (with_reducible refine (HWR.out _ (by exact blw)).mono ?_); rintro e w3 ⟨a1, c1, rfl, hown, k11, k12, k13, hb3⟩; have HHb := Lib.hid (has_of_owns hown); have h3z := hb3.size; clear hown)
      | (go_at_call 32; (with_reducible refine (HRD.out _ _ _ HHb.out).mono ?_); rintro e w4 ⟨rfl, hb4⟩; have h4z := hb4.size))
    go_ret
    exact ⟨rfl, blw⟩
  obtain ⟨rs, S, hok⟩ := hok
  have HRD := Lib.hid (fun a c W (hW : Has W a (bytesV bs)) => iread_some a nB c bs 40 40 rfl rs S W hW HL.out (by omega) (by decide) (by decide) hok)
  have hidw := newG_idsC (ownI_wide (n := nI) hs7)
  have hnl : (newG (ownI nI)).length = nI := by rw [newG_length, ownI_length]
  have HRUN := Lib.hid (fun (Lx Bm gt gl : Nat) (a : Option Addr) (c : Nat) (W : World) (hLx : Lx ≤ w.heap.size) (hT : IIs Lx Bm gt bs rs S W) (hG : GIs w.heap.size gl a c (newG (ownI nI)) W) (hB : w.heap.size ≤ W.heap.size) (hgl : w.heap.size ≤ gl) => irun_any Lx Bm gt bs 40 rs S w.heap.size gl a c (newG (ownI nI)) (lk : Int) lk W hT hok (by decide) (by decide) hLx hgl hG hB hidw rfl (by rw [hnl]; omega))
  have hIN := insD_in bs rs (bs.drop (num bs 16 4)) lk (newG (ownI nI))
  have hOWN := (insD_others ownT (fun y c h1 h2 => by simp [ownT]; omega) bs rs (bs.drop (num bs 16 4)) lk (newG (ownI nI))).trans (newG_ownI nI)
  obtain ⟨ans, hans⟩ : ∃ ans : Int, ans = if (insD bs rs (bs.drop (num bs 16 4)) lk (newG (ownI nI))).1.2.2.2 = true then (4 : Int) else ((insD bs rs (bs.drop (num bs 16 4)) lk (newG (ownI nI))).2.2 : Nat) := ⟨_, rfl⟩
  rw [← hans] at HRUN
  rw [hnl] at hIN
  clear hans hok hidw
  generalize insD bs rs (bs.drop (num bs 16 4)) lk (newG (ownI nI)) = RR at *
  obtain ⟨⟨R, _, P, _⟩, _, _⟩ := RR
  simp only at HRUN hIN hOWN
  have hk1 : IntKind.i64.wrap (lk : Int) = (lk : Int) := IntWalk.i64_in _ (by omega)
  obtain ⟨nR, hnR⟩ : ∃ nR, nR = R.length := ⟨_, rfl⟩
  have hRL : nR ≤ 1000000 := by omega
  have hwR : IntKind.i64.wrap ((nI : Int) + (P : Int)) = ((nR : Nat) : Int) := by rw [IntWalk.i64_in _ (by omega)]; omega
  have hPP : ((nR : Int) != (nR : Int)) = false := by simp
  have hP0 : decide ((P : Int) < 0) = false := by simp
  have hPk : decide ((lk : Int) < (P : Int)) = false := by simp; omega
  have hPl : P ≤ lk := hIN.2
  have HOWN := Lib.hid hOWN
  have HRL := Lib.hid hnR.symm
  have HFL := Lib.hid (show (R.filter ownT).length = nI from by rw [hOWN, hnl])
  clear hIN hnR hOWN hnl
  go_enter Try.func9, Try.ntmps9
  go_wp2_with (first
      | (go_at_call 30; (with_reducible refine (HSP.out _ (by exact blw)).mono ?_); rintro e w1 ⟨rfl, hb1⟩; have h1c := bc hb1; have h1f := bf hb1; have h1z := hb1.size; try simp only [World.size_alloc, World.size_drew] at h1z)
      | (go_at_call 31; (with_reducible refine (HSM.out _ (by exact blw)).mono ?_); rintro e w2 ⟨rfl, hb2⟩; have h2c := bc hb2; have h2f := bf hb2; have h2z := hb2.size; try simp only [World.size_alloc, World.size_drew] at h2z)
      | (go_at_call 33; (with_reducible refine (HWR.out _ (by exact blw)).mono ?_); rintro e w3 ⟨a1, c1, rfl, hown, k11, k12, k13, hb3⟩; have HHb := Lib.hid (has_of_owns hown); have HB3 := Lib.hid (show Below w.heap.size w w3 from by exact blw); have h3z := hb3.size; clear hown)
      | (go_at_call 32; (with_reducible refine (HRD.out _ _ _ HHb.out).mono ?_); rintro e w4 ⟨gt, rfl, hT, hb4⟩; have HT := Lib.hid hT; have HB4 := Lib.hid (HB3.out.trans (hb4.mono HB3.out.size)); clear hT hb4))
  go_loopw [9, 34] (fun v i wr => ∃ j : Nat, j ≤ nI ∧ i = .int .i64 (j : Nat) ∧ IRow w4.heap.size (ownI j) v wr ∧ Below w4.heap.size w4 wr) (fun _ i _ => nI - (Go.RowKit.intOf i).toNat)
  case atStart => exact ⟨0, Nat.zero_le _, rfl, ⟨none, 0, rfl, World.ownsRow_nil _ _ _ _⟩, Below.refl _ _⟩
  case round =>
    obtain ⟨j, hj, rfl, hI, hb⟩ := hrel
    rename World => wr
    have HBR := Lib.hid hb
    have HIR := Lib.hid hI
    have hrz := hb.size
    clear hb hI
    by_cases hlt : j < nI
    · have hwj : IntKind.i64.wrap (70000 + (j : Int)) = 70000 + (j : Int) := IntWalk.i64_in _ (by omega)
      go_wp2_with (at_builtin; refine wpAppI rfl _ _ rfl w4.heap.size _ (ownI j) [70000 + (j : Int)] rfl (HIR.out.below (balloc (brefl _) _)) (some ⟨wr.heap.size, 0, none⟩) 1 1 rfl rfl (has_alloc wr _ _) (fun h => by cases h) (by rw [ownI_length]; omega) (by simp; omega) ?_; intro v5 w5 hI5 hb5 hg5; clear hg5; have HI5 := Lib.hid hI5; have HB5 := Lib.hid ((HBR.out.alloc (by omega) _).trans hb5); clear hI5 hb5)
      go_roundw
      case rel => exact ⟨j + 1, hlt, by go_num, by rw [← ownI_snoc]; exact HI5.out, HB5.out⟩
      case measure => simp [Go.RowKit.intOf]; omega
    · obtain rfl : nI = j := by omega
      obtain ⟨aO, cO, rfl, hO⟩ := HIR.out
      rw [ownI_length] at hO
      have HHO := Lib.hid (has_of_owns hO)
      have HTr := Lib.hid (HT.out.below HBR.out)
      have HBr := Lib.hid (HB4.out.trans (HBR.out.mono HB4.out.size))
      rw [ownI_length]
      clear hO hlt HIR
      go_wp2_with (first
        | (go_at_call 17; (with_reducible refine (gnew_any aO nI cO (ownI nI) wr HHO.out (ownI_length nI) (by omega)).mono ?_); rintro e w5 ⟨gx, ax, cx, rfl, hGx, hgx, hb5⟩; have HGX := Lib.hid (hGx.mono HBr.out.size); have HT5 := Lib.hid (HTr.out.below hb5); have HB5 := Lib.hid (HBr.out.trans (hb5.mono HBr.out.size)); have hgx0 : w.heap.size ≤ gx := Nat.le_trans HBr.out.size hgx; clear hGx hgx hb5)
        | (go_at_call 34; (with_reducible refine (HRUN.out 0 _ _ _ _ _ w5 (Nat.zero_le _) HT5.out HGX.out HB5.out.size hgx0).mono ?_); rintro e w6 ⟨rfl, ⟨ax6, cx6, hGx6, _⟩, hk6⟩; have HG6 := Lib.hid hGx6; have HB6 := Lib.hid (HB5.out.trans hk6.below); clear hGx6 hk6)
        | (go_at_call 22; (with_reducible refine (show Calls Try.prog 22 #[.pointer (some ⟨gx, 0, none⟩)] w6 fun e w' => ∃ a' c', e = .returned (.slice a' nR c') ∧ w'.ownsRow w6.heap.size 59 2 (.slice a' nR c') nR (gv R) ∧ nR ≤ c' ∧ c' ≤ maxLen ∧ (a' = none → c' = 0) ∧ Below w6.heap.size w6 w' from HRL.out ▸ gglyphs_any w.heap.size gx ax6 cx6 R w6 HG6.out (by rw [HRL.out]; omega)).mono ?_); rintro e w7 ⟨a7, c7, rfl, ho, _, _, _, hb7⟩; have HO7 := Lib.hid ho; have HB7 := Lib.hid (HB6.out.trans (hb7.mono HB6.out.size)); clear ho hb7))
      go_loopw [15, 74] (fun f i wr => ∃ j : Nat, j ≤ nR ∧ i = .int .i64 (j : Nat) ∧ f = .int .i64 (((R.take j).filter ownT).length : Nat) ∧ Below w7.heap.size w7 wr) (fun _ i _ => nR - (Go.RowKit.intOf i).toNat)
      case atStart => exact ⟨0, Nat.zero_le _, rfl, rfl, Below.refl _ _⟩
      case round =>
        obtain ⟨k, hk, rfl, rfl, hb⟩ := hrel
        rename World => wu
        have HBU := Lib.hid hb
        have HOU := Lib.hid (owns_below HO7.out hb (Nat.le_refl _))
        clear hb
        by_cases hlt : k < nR
        · obtain ⟨gi, p, rfl, hgi, hgz, hp, hc1, hc2, _, _, _, _⟩ := grow_at HOU.out HRL.out hlt
          have hat := own_at HOWN.out hp
          have hnx := take_filter (f := ownT) hp
          have HREL := Lib.hid (fun (m : Nat) (h : ((R.take (k + 1)).filter ownT).length = m) => show ∃ j : Nat, j ≤ nR ∧ Value.int .i64 ((k : Int) + 1) = .int .i64 (j : Nat) ∧ Value.int .i64 (m : Nat) = .int .i64 (((R.take j).filter ownT).length : Nat) ∧ _ from ⟨k + 1, hlt, by go_num, by rw [h], HBU.out.trans (balloc (brefl _) (.cells #[.int .i64 p.1, .int .i64 p.2] 59) |>.mono HBU.out.size)⟩)
          obtain ⟨p1, p2⟩ := p
          simp only at hat hc1 hc2 HREL
          clear hp
          by_cases h7 : 70000 ≤ p1
          · obtain ⟨hm, hpe⟩ := hat h7
            have d1 : decide (70000 ≤ p1) = true := by simpa using h7
            rw [if_pos (by simpa [ownT] using h7)] at hnx
            have HNX := Lib.hid hnx
            clear hnx hat h7
            generalize ((R.take k).filter ownT).length = m at *
            injection hpe with e1 e2
            subst e1 e2
            have hwm : IntKind.i64.wrap (70000 + (m : Int)) = 70000 + (m : Int) := IntWalk.i64_in _ (by omega)
            have hw1 : IntKind.i64.wrap ((m : Int) + 1) = (m : Int) + 1 := IntWalk.i64_in _ (by omega)
            have d2 : ((70000 + (m : Int)) != (70000 + (m : Int))) = false := by simp
            have d3 : ((m : Int) != (m : Int)) = false := by simp
            go_wp2_with fail
            go_roundw
            case rel => exact HREL.out (m + 1) HNX.out
            case measure => simp only [Go.RowKit.intOf]; omega
          · have d1 : decide (70000 ≤ p1) = false := by simpa using h7
            rw [if_neg (by simpa [ownT] using h7), Nat.add_zero] at hnx
            have HNX := Lib.hid hnx
            clear hnx hat h7
            generalize ((R.take k).filter ownT).length = m at *
            go_wp2_with fail
            go_roundw
            case rel => exact HREL.out m HNX.out
            case measure => simp only [Go.RowKit.intOf]; omega
        · obtain rfl : nR = k := by omega
          have hfl : ((R.take nR).filter ownT).length = nI := by rw [List.take_of_length_le (by rw [HRL.out]; exact Nat.le_refl _)]; exact HFL.out
          rw [hfl]
          have HBW := Lib.hid (HB7.out.trans (HBU.out.mono HB7.out.size))
          have d1 : ((nI : Int) == (nI : Int)) = true := by simp
          clear hfl hlt
          go_wp2_with fail
          go_ret
          exact ⟨rfl, HBW.out⟩

open Go.ChangeShapes Go.WideShapes Go.ChangeAt Go.RowKit
open Go.ChangeMaps (open_string shut_string)

set_option maxRecDepth 100000 in
theorem insMore_walks (H : Type) (enc : TypeId × Value → H) : Walks H enc 9 [73, 23, 5] := by
  intro W base args ds p hval hA _
  obtain ⟨v0, vs0, d0, ds0, p0, q0, hargs, rfl, rfl, h0, r0⟩ := trodAll_cons hA
  obtain ⟨v1, vs1, d1, ds1, p1, q1, rfl, rfl, rfl, h1, r1⟩ := trodAll_cons r0
  obtain ⟨v2, vs2, d2, ds2, p2, q2, rfl, rfl, rfl, h2, r2⟩ := trodAll_cons r1
  obtain ⟨rfl, rfl, rfl⟩ := trodAll_nil r2
  obtain rfl : args = #[v0, v1, v2] := by cases args; simp_all
  obtain ⟨p, aC, aR, aE, rv, cC, cR, cE, aL, cL, list, rfl, hP, hw, _, hS, h16⟩ := open_plan18 (hval 0 73 v0 rfl rfl) h0
  obtain ⟨a, n, c, ids, rfl, hl, _, _, _, hi, hz⟩ := open_ids (hval 1 23 v1 rfl rfl) h1
  obtain ⟨z2, rfl, t2⟩ := open_int Try.underlying5 (hval 2 5 v2 rfl rfl) h2
  obtain ⟨lk, rfl, hlk⟩ := wf_u8 t2
  exact insMore_walk p aC aR aE rv cC cR cE aL cL list a n c ids lk W hP hw hS h16 hi hl hz hlk

set_option maxRecDepth 100000 in
theorem insMore_lifted (os : Os) (started : os.Started) (H : Type) (enc : TypeId × Value → H) :
    ReturnsInHanded {} Try.checked os 9 .any (Rows.insMoreSpec.pre6 enc Try.prog Try.f9 Rows.insMoreRow.domain false) (Rows.insMoreSpec.post enc Try.prog Try.f9 false true false false) :=
  lift_law (s := Rows.insMoreSpec) (fn := Try.f9) started (by kernel_rfl) Try.func9
    (ChangeSpec.witness6 (enc := enc) (C := Try.checked) false ⟨#[], #[.agg #[.slice none 0 0, .slice none 0 0, .slice none 0 0, .int .u8 0, .slice none 0 0], .slice none 0 0, .int .u8 0], []⟩ 8 (by kernel_rfl) (by kernel_rfl) (by kernel_rfl) (by kernel_rfl))
    rfl rfl (fun ds h => by match ds, h with | [d0, d1, d2], _ => rfl) (by intro t ht; simp [Try.params9] at ht; first | (subst ht; exact ⟨by kernel_rfl, of_decide_eq_true (by kernel_rfl)⟩) | (obtain rfl | rfl := ht <;> exact ⟨by kernel_rfl, of_decide_eq_true (by kernel_rfl)⟩) | (obtain rfl | rfl | rfl := ht <;> exact ⟨by kernel_rfl, of_decide_eq_true (by kernel_rfl)⟩) | (obtain rfl | rfl | rfl | rfl := ht <;> exact ⟨by kernel_rfl, of_decide_eq_true (by kernel_rfl)⟩))
    (by rw [Try.params9]; exact insMore_walks H enc)
theorem insMore_over : Rows.insMoreRow.holds Try.pinned (OpenSpec.ofChange Rows.insMoreSpec) :=
  OpenClaim.holds_of_wide 9 Try.f9 rfl rfl rfl rfl rfl rfl rfl ⟨rfl, rfl, rfl, rfl, rfl⟩ rfl rfl rfl rfl rfl (by kernel_rfl) Try.func9 (by kernel_rfl)
    (of_decide_eq_true (by kernel_rfl)) (by unfold Func.isWrapper; first | (rw [if_pos (by decide +kernel)]; kernel_rfl) | (rw [if_neg (by decide +kernel)]; exact ⟨rfl, rfl⟩))
    (fun os started H enc _ => insMore_lifted os started H enc)
theorem insMore_proved : Rows.InsMoreSaid := insMore_over
#print axioms insMore_proved
end Go.Proofs.Ytlgkikmmpnnnfaa
