
/- The walk of InsLeft. InsLeft returns true for every plan of a machine and list, every line, and every number, and changes nothing: a Run that is given as many as one with more took does the same, and one that is given less takes less and answers 4. No condition beside the row's own. -/
import Derived.Test.YtlgkikmmpnnnfaaJ01
import Derived.Test.YtlgkikmmpnnnfaaJ19
import Derived.Test.YtlgkikmmpnnnfaaJ20
import Derived.Test.YtlgkikmmpnnnfaaJ13
namespace Go.Proofs.Ytlgkikmmpnnnfaa
open Go.RowKit Go.Lib

theorem runD_end {X : Type} {cl : X → Nat → Nat} {en : Nat → Nat → Ent} {fin : X → Nat → Bool} {act : X → Nat → Ent → X × Int × Int} : ∀ fu x now z re st, (runD cl en fin act fu x now z re st).2.2 = 0 ∨ (runD cl en fin act fu x now z re st).2.2 = 4 := by
  intro fu
  induction fu with
  | zero => intro x now z re st; exact .inr rfl
  | succ fu ih =>
    intro x now z re st
    unfold runD
    simp only
    split
    · split
      · exact .inr rfl
      · exact ih _ _ _ _ _
    · split
      · exact .inl rfl
      · exact ih _ _ _ _ _
theorem insD_end (bs : List UInt8) (rs : List RP) (li : List UInt8) (left : Nat) (l : List (Int × Int)) : (insD bs rs li left l).2.2 = 0 ∨ (insD bs rs li left l).2.2 = 4 := runD_end _ _ _ _ _ _
set_option maxRecDepth 100000 in
set_option maxHeartbeats 12800000 in
theorem insLeft_walk (p : PlanL) (aC aR aE : Option Addr) (rv : List Value) (cC cR cE : Nat) (aL : Option Addr) (cL : Nat) (list : List Nat) (aI : Option Addr) (nI cI : Nat) (ids : List Int) (lk : Nat) (w : World) (hP : PlanHas w p aC aR rv aE) (hw : ∀ e ∈ p.ents, wfI e.1 ∧ wfI e.2.1 ∧ wfI e.2.2.1 ∧ wfI e.2.2.2)
    (hS : Has w aL (u16V list)) (h16 : ∀ x ∈ list, x ≤ 65535) (hi : Has w aI (iv ids)) (hil : ids.length = nI) (hiw : ∀ z ∈ ids, -9223372036854775808 ≤ z ∧ z ≤ 9223372036854775807) (hlk : lk ≤ 255) :
    Calls Try.prog 11 #[.agg #[.slice aC p.cls.length cC, .slice aR p.rows.length cR, .slice aE p.ents.length cE, .int .u8 (p.wide.toNat : Nat), .slice aL list.length cL], .slice aI nI cI, .int .u8 (lk : Nat)] w fun e w' => e = .returned (.bool true) ∧ Below w.heap.size w w' := by
  have hAC := allocC
  have hAF := allocF
  have HSP := Lib.hid (fun W (_ : Below w.heap.size w W) => speaks18_any W)
  have hsm := fun W (_ : Below w.heap.size w W) => small18_any aC aR aE aL aI p.cls.length p.rows.length p.ents.length list.length nI cC cR cE cL cI (p.wide.toNat : Int) W
  have HI := Lib.hid hi
  have HIL := Lib.hid hil
  have HIW := Lib.hid hiw
  by_cases hs : Sm18 p.cls.length p.rows.length p.ents.length list.length nI
  case neg =>
    have HSM := Lib.hid (fun W (hW : Below w.heap.size w W) => (hsm W hW).mono (R' := fun e w' => e = .returned (.bool false) ∧ Below W.heap.size W w') (by
      rintro e w' ⟨⟨b, rfl, hb⟩, hb2⟩
      refine ⟨?_, hb2⟩
      cases b with
      | false => rfl
      | true => exact absurd (hb.1 rfl) hs))
    clear hsm hs hP hw hS h16 hi hil hiw
    generalize p.cls.length = nC at *
    generalize p.rows.length = nR at *
    generalize p.ents.length = nE at *
    generalize list.length = nL at *
    generalize (p.wide.toNat : Int) = wd at *
    go_enter Try.func11, Try.ntmps11
    go_wp2_with (first | (go_at_call 30; (with_reducible refine (HSP.out _ (by exact blw)).mono ?_); rintro e w1 ⟨rfl, hb1⟩; have h1c := bc hb1; have h1f := bf hb1; have h1z := hb1.size; try simp only [World.size_alloc, World.size_drew] at h1z) | (go_at_call 31; (with_reducible refine (HSM.out _ (by exact blw)).mono ?_); rintro e w2 ⟨rfl, hb2⟩; have h2c := bc hb2; have h2f := bf hb2; have h2z := hb2.size; try simp only [World.size_alloc, World.size_drew] at h2z))
    go_ret
    exact ⟨rfl, blw⟩
  have HSM := Lib.hid (fun W (hW : Below w.heap.size w W) => (hsm W hW).mono (R' := fun e w' => e = .returned (.bool true) ∧ Below W.heap.size W w') (by
    rintro e w' ⟨⟨b, rfl, hb⟩, hb2⟩
    refine ⟨?_, hb2⟩
    rw [hb.2 hs]))
  obtain ⟨hs1, hs2, hs3, hs4, hs7⟩ := hs
  have HWR := Lib.hid (fun W (hW : Below w.heap.size w W) => write18_any p aC aR aE rv cC cR cE aL list.length cL list W (hP.below hW) (by omega) (by omega) (by omega) hw (hS.below hW) rfl (by omega) h16)
  have hn2 : (insB p list).length ≤ 100000 := by
    have h1 := insB_length (p := p) list
    have h2 := planL2 (p := p)
    have h3 : p.n ≤ 11 := by unfold PlanL.n; omega
    have h4 : p.rows.length * p.n ≤ 220 := Nat.le_trans (Nat.mul_le_mul hs2 h3) (by decide)
    omega
  generalize hbs : insB p list = bs at *
  obtain ⟨nB, hnB⟩ : ∃ nB, nB = bs.length := ⟨_, rfl⟩
  rw [← hnB] at HWR hn2
  have HL := Lib.hid hnB.symm
  clear hsm hs1 hs2 hs3 hs4 hP hw hS h16 hi hil hiw hbs hnB
  generalize p.cls.length = nC at *
  generalize p.rows.length = nR at *
  generalize p.ents.length = nE at *
  generalize list.length = nL at *
  generalize (p.wide.toNat : Int) = wd at *
  by_cases hok : ∃ rs S, IOk bs 40 rs S
  case neg =>
    have hno : ∀ rs S, ¬ IOk bs 40 rs S := fun rs S h => hok ⟨rs, S, h⟩
    have HRD := Lib.hid (fun a c W (hW : Has W a (bytesV bs)) => iread_none a nB c bs 40 40 rfl W hW HL.out (by omega) (by decide) (by decide) hno)
    clear hok hno
    go_enter Try.func11, Try.ntmps11
    go_wp2_with (first
      | (go_at_call 30; (with_reducible refine (HSP.out _ (by exact blw)).mono ?_); rintro e w1 ⟨rfl, hb1⟩; have h1c := bc hb1; have h1f := bf hb1; have h1z := hb1.size; try simp only [World.size_alloc, World.size_drew] at h1z)
      | (go_at_call 31; (with_reducible refine (HSM.out _ (by exact blw)).mono ?_); rintro e w2 ⟨rfl, hb2⟩; have h2c := bc hb2; have h2f := bf hb2; have h2z := hb2.size; try simp only [World.size_alloc, World.size_drew] at h2z)
      | (go_at_call 33; (with_reducible refine (HWR.out _ (by exact blw)).mono ?_); rintro e w3 ⟨a1, c1, rfl, hown, k11, k12, k13, hb3⟩; have HHb := Lib.hid (has_of_owns hown); have h3z := hb3.size; clear hown)
      | (go_at_call 32; (with_reducible refine (HRD.out _ _ _ HHb.out).mono ?_); rintro e w4 ⟨rfl, hb4⟩; have h4z := hb4.size))
    go_ret
    exact ⟨rfl, blw⟩
  obtain ⟨rs, S, hok⟩ := hok
  have HRD := Lib.hid (fun a c W (hW : Has W a (bytesV bs)) => iread_some a nB c bs 40 40 rfl rs S W hW HL.out (by omega) (by decide) (by decide) hok)
  have HRUN := Lib.hid (fun (zl : Int) (left : Nat) (hz : left = zl.toNat) (h5 : left ≤ 400) (Lx Bm gt gl : Nat) (a : Option Addr) (c : Nat) (W : World) (hLx : Lx ≤ w.heap.size) (hT : IIs Lx Bm gt bs rs S W) (hG : GIs w.heap.size gl a c (newG ids) W) (hB : w.heap.size ≤ W.heap.size) (hgl : w.heap.size ≤ gl) => irun_any Lx Bm gt bs 40 rs S w.heap.size gl a c (newG ids) zl left W hT hok (by decide) (by decide) hLx hgl hG hB (newG_idsC HIW.out) hz (by rw [newG_length, HIL.out]; omega))
  have hIN := insD_in bs rs (bs.drop (num bs 16 4)) (100 + lk) (newG ids)
  have hEND := insD_end bs rs (bs.drop (num bs 16 4)) (100 + lk) (newG ids)
  have hSAME := insD_same (bs := bs) (rs := rs) (li := bs.drop (num bs 16 4)) (left := 100 + lk) (lefu := (insD bs rs (bs.drop (num bs 16 4)) (100 + lk) (newG ids)).1.2.2.1) (l := newG ids)
  have hLESS := insD_less (bs := bs) (rs := rs) (li := bs.drop (num bs 16 4)) (left := 100 + lk) (l := newG ids)
  have HR1 := HRUN.out (100 + (lk : Int)) (100 + lk) (by omega) (by omega)
  have HR2 := HRUN.out ((insD bs rs (bs.drop (num bs 16 4)) (100 + lk) (newG ids)).1.2.2.1 : Nat) ((insD bs rs (bs.drop (num bs 16 4)) (100 + lk) (newG ids)).1.2.2.1) (by omega) (by omega)
  have HR3 := HRUN.out (((insD bs rs (bs.drop (num bs 16 4)) (100 + lk) (newG ids)).1.2.2.1 : Nat) - 1) ((insD bs rs (bs.drop (num bs 16 4)) (100 + lk) (newG ids)).1.2.2.1 - 1) (by omega) (by omega)
  have hwk : IntKind.i64.wrap (100 + (lk : Int)) = 100 + (lk : Int) := IntWalk.i64_in _ (by omega)
  have hk1 : IntKind.i64.wrap (lk : Int) = (lk : Int) := IntWalk.i64_in _ (by omega)
  clear HRUN hok
  by_cases hO : (insD bs rs (bs.drop (num bs 16 4)) (100 + lk) (newG ids)).1.2.2.2 = true ∨ (insD bs rs (bs.drop (num bs 16 4)) (100 + lk) (newG ids)).2.2 = 4
  case pos =>
    have he : (if (insD bs rs (bs.drop (num bs 16 4)) (100 + lk) (newG ids)).1.2.2.2 = true then (4 : Int) else ((insD bs rs (bs.drop (num bs 16 4)) (100 + lk) (newG ids)).2.2 : Nat)) = 4 := by
      split
      · rfl
      · rename_i h
        rw [hO.resolve_left h]; rfl
    rw [he] at HR1
    clear HR2 HR3 hSAME hLESS hEND hO he hIN
    generalize insD bs rs (bs.drop (num bs 16 4)) (100 + lk) (newG ids) = RR at *
    obtain ⟨⟨R, _, P, _⟩, _, E⟩ := RR
    simp only at HR1
    have HR1 := Lib.hid HR1
    go_enter Try.func11, Try.ntmps11
    go_wp2_with (first
      | (go_at_call 30; (with_reducible refine (HSP.out _ (by exact blw)).mono ?_); rintro e w1 ⟨rfl, hb1⟩; have h1c := bc hb1; have h1f := bf hb1; have h1z := hb1.size; try simp only [World.size_alloc, World.size_drew] at h1z)
      | (go_at_call 31; (with_reducible refine (HSM.out _ (by exact blw)).mono ?_); rintro e w2 ⟨rfl, hb2⟩; have h2c := bc hb2; have h2f := bf hb2; have h2z := hb2.size; try simp only [World.size_alloc, World.size_drew] at h2z)
      | (go_at_call 33; (with_reducible refine (HWR.out _ (by exact blw)).mono ?_); rintro e w3 ⟨a1, c1, rfl, hown, k11, k12, k13, hb3⟩; have HHb := Lib.hid (has_of_owns hown); have HB3 := Lib.hid (show Below w.heap.size w w3 from by exact blw); have h3z := hb3.size; clear hown)
      | (go_at_call 32; (with_reducible refine (HRD.out _ _ _ HHb.out).mono ?_); rintro e w4 ⟨gt, rfl, hT, hb4⟩; have HT := Lib.hid hT; have HB4 := Lib.hid (HB3.out.trans (hb4.mono HB3.out.size)); clear hT hb4)
      | (go_at_call 17; (with_reducible refine (gnew_any aI nI cI ids w4 (HI.out.below HB4.out) HIL.out (by omega)).mono ?_); rintro e w5 ⟨gx, ax, cx, rfl, hGx, hgx, hb5⟩; have HGX := Lib.hid (hGx.mono HB4.out.size); have HT5 := Lib.hid (HT.out.below hb5); have HB5 := Lib.hid (HB4.out.trans (hb5.mono HB4.out.size)); have hgx0 : w.heap.size ≤ gx := Nat.le_trans HB4.out.size hgx; have HGX5 := Lib.hid hGx; clear hgx hb5)
      | (go_at_call 17
         (with_reducible refine (gnew_any aI nI cI ids w5 (HI.out.below HB5.out) HIL.out (by omega)).mono ?_)
         rintro e w6 ⟨gy, ay, cy, rfl, hGy, hgy, hb6⟩
         have HGX6 := Lib.hid ((HGX.out.below hb6))
         have HGY6 := Lib.hid (hGy.mono HB5.out.size)
         have HT6 := Lib.hid (HT5.out.below hb6)
         have HNXY := Lib.hid (show ∀ k, ay.map (·.block) = some k → ax.map (·.block) ≠ some k from fun k hk hx => by have h1 := (hGy.rowIn k hk).1; have h2 := (HGX5.out.rowIn k hx).2; omega)
         have hgxy : gy ≠ gx := by have := (Array.getElem?_eq_some_iff.1 HGX5.out.hd).1; omega
         have HB6 := Lib.hid (HB5.out.trans (hb6.mono HB5.out.size))
         have hgy0 : w.heap.size ≤ gy := Nat.le_trans HB5.out.size hgy
         have HZ6 := Lib.hid hb6.size
         clear hGy hgy hb6)
      | (go_at_call 17
         (with_reducible refine (gnew_any aI nI cI ids w6 (HI.out.below HB6.out) HIL.out (by omega)).mono ?_)
         rintro e w7 ⟨gz, az, cz, rfl, hGz, hgz, hb7⟩
         have HGX7 := Lib.hid ((HGX6.out.below hb7))
         have HGY7 := Lib.hid ((HGY6.out.below hb7))
         have HGZ7 := Lib.hid (hGz.mono HB6.out.size)
         have HT7 := Lib.hid (HT6.out.below hb7)
         have HNXZ := Lib.hid (show ∀ k, az.map (·.block) = some k → ax.map (·.block) ≠ some k from fun k hk hx => by have h1 := (hGz.rowIn k hk).1; have h2 := (HGX6.out.rowIn k hx).2; omega)
         have HNYZ := Lib.hid (show ∀ k, az.map (·.block) = some k → ay.map (·.block) ≠ some k from fun k hk hx => by have h1 := (hGz.rowIn k hk).1; have h2 := (HGY6.out.rowIn k hx).2; omega)
         have HNX := Lib.hid (show ∀ a6, RowOf (ax.map (·.block)) w7.heap.size a6 → ∀ k, a6.map (·.block) = some k → ay.map (·.block) ≠ some k from fun a6 hr k hk hy => by
           rcases hr k hk with e | e
           · exact HNXY.out k hy e
           · have h2 := (HGY7.out.rowIn k hy).2
             omega)
         have hgxz : gz ≠ gx := by have := (Array.getElem?_eq_some_iff.1 HGX6.out.hd).1; omega
         have hgyz : gz ≠ gy := by have := (Array.getElem?_eq_some_iff.1 HGY6.out.hd).1; omega
         have HB7 := Lib.hid (HB6.out.trans (hb7.mono HB6.out.size))
         have hgz0 : w.heap.size ≤ gz := Nat.le_trans HB6.out.size hgz
         clear hGz hgz hb7)
      | (go_at_call 34; (with_reducible refine (HR1.out 0 _ _ _ _ _ w7 (Nat.zero_le _) HT7.out HGX7.out HB7.out.size hgx0).mono ?_); rintro e w8 ⟨rfl, _, hk8⟩; have HB8 := Lib.hid (HB7.out.trans hk8.below); clear hk8))
    go_ret
    exact ⟨rfl, HB8.out⟩
  have hO1 : (insD bs rs (bs.drop (num bs 16 4)) (100 + lk) (newG ids)).1.2.2.2 = false := by
    rcases h : (insD bs rs (bs.drop (num bs 16 4)) (100 + lk) (newG ids)).1.2.2.2 with _ | _
    · rfl
    · exact absurd (.inl h) hO
  have hE0 : (insD bs rs (bs.drop (num bs 16 4)) (100 + lk) (newG ids)).2.2 = 0 := hEND.resolve_right fun h => hO (.inr h)
  have hSAME := hSAME hO1 (Nat.le_refl _)
  have hLESS := hLESS hO1
  rw [hSAME] at HR2
  rw [hO1, hE0] at HR1 HR2
  clear hEND hO hSAME hO1 hE0
  generalize insD bs rs (bs.drop (num bs 16 4)) (100 + lk) (newG ids) = RR at *
  obtain ⟨⟨R, _, P, _⟩, _, _⟩ := RR
  simp only [Bool.false_eq_true, if_false] at HR1 HR2 HR3 hLESS hIN
  have hRL : R.length ≤ 1000000 := by rw [hIN.1, newG_length, HIL.out]; omega
  have hPk : P ≤ 355 := by omega
  have hwP : IntKind.i64.wrap ((P : Int) - 1) = (P : Int) - 1 := IntWalk.i64_in _ (by omega)
  have hPP : ((P : Int) != (P : Int)) = false := by simp
  obtain ⟨ans, hans⟩ : ∃ ans : Int, ans = if (insD bs rs (bs.drop (num bs 16 4)) (P - 1) (newG ids)).1.2.2.2 = true then (4 : Int) else ((insD bs rs (bs.drop (num bs 16 4)) (P - 1) (newG ids)).2.2 : Nat) := ⟨_, rfl⟩
  rw [← hans] at HR3
  have hLESS := fun h => show ans = 4 ∧ _ from ⟨by rw [hans, if_pos (hLESS h).1], (hLESS h).2⟩
  generalize insD bs rs (bs.drop (num bs 16 4)) (P - 1) (newG ids) = RQ at *
  obtain ⟨⟨R', _, P', _⟩, _, _⟩ := RQ
  simp only at HR3 hLESS
  have HR1 := Lib.hid HR1
  have HR2 := Lib.hid HR2
  have HR3 := Lib.hid HR3
  have HLS := Lib.hid hLESS
  clear hIN hans hLESS
  go_enter Try.func11, Try.ntmps11
  go_wp2_with (first
      | (go_at_call 30; (with_reducible refine (HSP.out _ (by exact blw)).mono ?_); rintro e w1 ⟨rfl, hb1⟩; have h1c := bc hb1; have h1f := bf hb1; have h1z := hb1.size; try simp only [World.size_alloc, World.size_drew] at h1z)
      | (go_at_call 31; (with_reducible refine (HSM.out _ (by exact blw)).mono ?_); rintro e w2 ⟨rfl, hb2⟩; have h2c := bc hb2; have h2f := bf hb2; have h2z := hb2.size; try simp only [World.size_alloc, World.size_drew] at h2z)
      | (go_at_call 33; (with_reducible refine (HWR.out _ (by exact blw)).mono ?_); rintro e w3 ⟨a1, c1, rfl, hown, k11, k12, k13, hb3⟩; have HHb := Lib.hid (has_of_owns hown); have HB3 := Lib.hid (show Below w.heap.size w w3 from by exact blw); have h3z := hb3.size; clear hown)
      | (go_at_call 32; (with_reducible refine (HRD.out _ _ _ HHb.out).mono ?_); rintro e w4 ⟨gt, rfl, hT, hb4⟩; have HT := Lib.hid hT; have HB4 := Lib.hid (HB3.out.trans (hb4.mono HB3.out.size)); clear hT hb4)
      | (go_at_call 17; (with_reducible refine (gnew_any aI nI cI ids w4 (HI.out.below HB4.out) HIL.out (by omega)).mono ?_); rintro e w5 ⟨gx, ax, cx, rfl, hGx, hgx, hb5⟩; have HGX := Lib.hid (hGx.mono HB4.out.size); have HT5 := Lib.hid (HT.out.below hb5); have HB5 := Lib.hid (HB4.out.trans (hb5.mono HB4.out.size)); have hgx0 : w.heap.size ≤ gx := Nat.le_trans HB4.out.size hgx; have HGX5 := Lib.hid hGx; clear hgx hb5)
      | (go_at_call 17
         (with_reducible refine (gnew_any aI nI cI ids w5 (HI.out.below HB5.out) HIL.out (by omega)).mono ?_)
         rintro e w6 ⟨gy, ay, cy, rfl, hGy, hgy, hb6⟩
         have HGX6 := Lib.hid ((HGX.out.below hb6))
         have HGY6 := Lib.hid (hGy.mono HB5.out.size)
         have HT6 := Lib.hid (HT5.out.below hb6)
         have HNXY := Lib.hid (show ∀ k, ay.map (·.block) = some k → ax.map (·.block) ≠ some k from fun k hk hx => by have h1 := (hGy.rowIn k hk).1; have h2 := (HGX5.out.rowIn k hx).2; omega)
         have hgxy : gy ≠ gx := by have := (Array.getElem?_eq_some_iff.1 HGX5.out.hd).1; omega
         have HB6 := Lib.hid (HB5.out.trans (hb6.mono HB5.out.size))
         have hgy0 : w.heap.size ≤ gy := Nat.le_trans HB5.out.size hgy
         have HZ6 := Lib.hid hb6.size
         clear hGy hgy hb6)
      | (go_at_call 17
         (with_reducible refine (gnew_any aI nI cI ids w6 (HI.out.below HB6.out) HIL.out (by omega)).mono ?_)
         rintro e w7 ⟨gz, az, cz, rfl, hGz, hgz, hb7⟩
         have HGX7 := Lib.hid ((HGX6.out.below hb7))
         have HGY7 := Lib.hid ((HGY6.out.below hb7))
         have HGZ7 := Lib.hid (hGz.mono HB6.out.size)
         have HT7 := Lib.hid (HT6.out.below hb7)
         have HNXZ := Lib.hid (show ∀ k, az.map (·.block) = some k → ax.map (·.block) ≠ some k from fun k hk hx => by have h1 := (hGz.rowIn k hk).1; have h2 := (HGX6.out.rowIn k hx).2; omega)
         have HNYZ := Lib.hid (show ∀ k, az.map (·.block) = some k → ay.map (·.block) ≠ some k from fun k hk hx => by have h1 := (hGz.rowIn k hk).1; have h2 := (HGY6.out.rowIn k hx).2; omega)
         have HNX := Lib.hid (show ∀ a6, RowOf (ax.map (·.block)) w7.heap.size a6 → ∀ k, a6.map (·.block) = some k → ay.map (·.block) ≠ some k from fun a6 hr k hk hy => by
           rcases hr k hk with e | e
           · exact HNXY.out k hy e
           · have h2 := (HGY7.out.rowIn k hy).2
             omega)
         have hgxz : gz ≠ gx := by have := (Array.getElem?_eq_some_iff.1 HGX6.out.hd).1; omega
         have hgyz : gz ≠ gy := by have := (Array.getElem?_eq_some_iff.1 HGY6.out.hd).1; omega
         have HB7 := Lib.hid (HB6.out.trans (hb7.mono HB6.out.size))
         have hgz0 : w.heap.size ≤ gz := Nat.le_trans HB6.out.size hgz
         clear hGz hgz hb7)
      | (go_at_call 34
         (with_reducible refine (HR1.out 0 _ _ _ _ _ w7 (Nat.zero_le _) HT7.out HGX7.out HB7.out.size hgx0).mono ?_)
         rintro e w8 ⟨rfl, ⟨ax8, cx8, hGx8, hbk8⟩, hk8⟩
         have HGX8 := Lib.hid hGx8
         have HBK8 := Lib.hid hbk8
         have HGY8 := Lib.hid (HGY7.out.keepQ hk8 hgxy HNXY.out)
         have HGZ8 := Lib.hid (HGZ7.out.keepQ hk8 hgxz HNXZ.out)
         have HT8 := Lib.hid (HT7.out.keepQ hk8 (Nat.zero_le _))
         have HB8 := Lib.hid (HB7.out.trans hk8.below)
         clear hGx8 hk8 hbk8)
      | (go_at_call 34
         (with_reducible refine (HR2.out 0 _ _ _ _ _ w8 (Nat.zero_le _) HT8.out HGY8.out HB8.out.size hgy0).mono ?_)
         rintro e w9 ⟨rfl, ⟨ay9, cy9, hGy9, _⟩, hk9⟩
         have HGY9 := Lib.hid hGy9
         have HGX9 := Lib.hid (HGX8.out.keepQ hk9 hgxy.symm (HNX.out _ HBK8.out))
         have HGZ9 := Lib.hid (HGZ8.out.keepQ hk9 hgyz HNYZ.out)
         have HT9 := Lib.hid (HT8.out.keepQ hk9 (Nat.zero_le _))
         have HB9 := Lib.hid (HB8.out.trans hk9.below)
         clear hGy9 hk9)
      | (go_at_call 22; (with_reducible refine (gglyphs_any w.heap.size gx ax8 cx8 R w9 HGX9.out hRL).mono ?_); rintro e w10 ⟨a10, c10, rfl, ho, _, _, _, hb10⟩; have HH10 := Lib.hid (has_of_owns ho); have HGY10 := Lib.hid (HGY9.out.below hb10); have HGZ10 := Lib.hid (HGZ9.out.below hb10); have HT10 := Lib.hid (HT9.out.below hb10); have HB10 := Lib.hid (HB9.out.trans (hb10.mono HB9.out.size)); clear ho hb10)
      | (go_at_call 22; (with_reducible refine (gglyphs_any w.heap.size gy ay9 cy9 R w10 HGY10.out hRL).mono ?_); rintro e w11 ⟨a11, c11, rfl, ho, _, _, _, hb11⟩; have HH11 := Lib.hid (has_of_owns ho); have HH10' := Lib.hid (HH10.out.below hb11); have HGZ11 := Lib.hid (HGZ10.out.below hb11); have HT11 := Lib.hid (HT10.out.below hb11); have HB11 := Lib.hid (HB10.out.trans (hb11.mono HB10.out.size)); clear ho hb11)
      | (go_at_call 21; (with_reducible refine (refSameG_any _ _ R.length _ R.length _ R R w11 HH10'.out rfl HH11.out rfl hRL hRL).mono ?_); rintro e w12 ⟨rfl, hb12⟩; rw [decide_eq_true rfl]; have HGZ12 := Lib.hid (HGZ11.out.below hb12); have HT12 := Lib.hid (HT11.out.below hb12); have HB12 := Lib.hid (HB11.out.trans (hb12.mono HB11.out.size)); clear hb12))
  refine (HR3.out 0 _ _ _ _ _ w12 (Nat.zero_le _) HT12.out HGZ12.out HB12.out.size hgz0).mono ?_
  rintro e w13 ⟨rfl, _, hk13⟩
  have HB13 := Lib.hid (HB12.out.trans hk13.below)
  clear hk13
  by_cases hP0 : P = 0
  · have d1 : ((P : Int) == 0) = true := by simp [hP0]
    clear hP0
    go_wp2_with fail
    go_ret
    exact ⟨rfl, HB13.out⟩
  · have d1 : ((P : Int) == 0) = false := by simp [hP0]
    obtain ⟨h4, hlt⟩ := HLS.out (by omega)
    have d2 : decide ((P' : Int) < (P : Int)) = true := by simp; omega
    subst h4
    clear hP0
    go_wp2_with fail
    go_ret
    exact ⟨rfl, HB13.out⟩

open Go.ChangeShapes Go.WideShapes Go.ChangeAt Go.RowKit
open Go.ChangeMaps (open_string shut_string)

set_option maxRecDepth 100000 in
theorem insLeft_walks (H : Type) (enc : TypeId × Value → H) : Walks H enc 11 [73, 23, 5] := by
  intro W base args ds p hval hA _
  obtain ⟨v0, vs0, d0, ds0, p0, q0, hargs, rfl, rfl, h0, r0⟩ := trodAll_cons hA
  obtain ⟨v1, vs1, d1, ds1, p1, q1, rfl, rfl, rfl, h1, r1⟩ := trodAll_cons r0
  obtain ⟨v2, vs2, d2, ds2, p2, q2, rfl, rfl, rfl, h2, r2⟩ := trodAll_cons r1
  obtain ⟨rfl, rfl, rfl⟩ := trodAll_nil r2
  obtain rfl : args = #[v0, v1, v2] := by cases args; simp_all
  obtain ⟨p, aC, aR, aE, rv, cC, cR, cE, aL, cL, list, rfl, hP, hw, _, hS, h16⟩ := open_plan18 (hval 0 73 v0 rfl rfl) h0
  obtain ⟨a, n, c, ids, rfl, hl, _, _, _, hi, hz⟩ := open_ids (hval 1 23 v1 rfl rfl) h1
  obtain ⟨z2, rfl, t2⟩ := open_int Try.underlying5 (hval 2 5 v2 rfl rfl) h2
  obtain ⟨lk, rfl, hlk⟩ := wf_u8 t2
  exact insLeft_walk p aC aR aE rv cC cR cE aL cL list a n c ids lk W hP hw hS h16 hi hl hz hlk

set_option maxRecDepth 100000 in
theorem insLeft_lifted (os : Os) (started : os.Started) (H : Type) (enc : TypeId × Value → H) :
    ReturnsInHanded {} Try.checked os 11 .any (Rows.insLeftSpec.pre6 enc Try.prog Try.f11 Rows.insLeftRow.domain false) (Rows.insLeftSpec.post enc Try.prog Try.f11 false true false false) :=
  lift_law (s := Rows.insLeftSpec) (fn := Try.f11) started (by kernel_rfl) Try.func11
    (ChangeSpec.witness6 (enc := enc) (C := Try.checked) false ⟨#[], #[.agg #[.slice none 0 0, .slice none 0 0, .slice none 0 0, .int .u8 0, .slice none 0 0], .slice none 0 0, .int .u8 0], []⟩ 8 (by kernel_rfl) (by kernel_rfl) (by kernel_rfl) (by kernel_rfl))
    rfl rfl (fun ds h => by match ds, h with | [d0, d1, d2], _ => rfl) (by intro t ht; simp [Try.params11] at ht; first | (subst ht; exact ⟨by kernel_rfl, of_decide_eq_true (by kernel_rfl)⟩) | (obtain rfl | rfl := ht <;> exact ⟨by kernel_rfl, of_decide_eq_true (by kernel_rfl)⟩) | (obtain rfl | rfl | rfl := ht <;> exact ⟨by kernel_rfl, of_decide_eq_true (by kernel_rfl)⟩) | (obtain rfl | rfl | rfl | rfl := ht <;> exact ⟨by kernel_rfl, of_decide_eq_true (by kernel_rfl)⟩))
    (by rw [Try.params11]; exact insLeft_walks H enc)
theorem insLeft_over : Rows.insLeftRow.holds Try.pinned (OpenSpec.ofChange Rows.insLeftSpec) :=
  OpenClaim.holds_of_wide 11 Try.f11 rfl rfl rfl rfl rfl rfl rfl ⟨rfl, rfl, rfl, rfl, rfl⟩ rfl rfl rfl rfl rfl (by kernel_rfl) Try.func11 (by kernel_rfl)
    (of_decide_eq_true (by kernel_rfl)) (by unfold Func.isWrapper; first | (rw [if_pos (by decide +kernel)]; kernel_rfl) | (rw [if_neg (by decide +kernel)]; exact ⟨rfl, rfl⟩))
    (fun os started H enc _ => insLeft_lifted os started H enc)
theorem insLeft_proved : Rows.InsLeftSaid := insLeft_over
#print axioms insLeft_proved
end Go.Proofs.Ytlgkikmmpnnnfaa
