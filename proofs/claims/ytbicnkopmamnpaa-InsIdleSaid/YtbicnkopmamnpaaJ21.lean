/- Joined from: IDo IPure IRun. -/
import Derived.Test.YtbicnkopmamnpaaJ01
import Derived.Test.YtbicnkopmamnpaaJ20
section

/- ins: what an entry does at a place. Conditions: a subtable, a line and what is remembered along it, in memory; sizes. -/
namespace Go.Proofs.Ytbicnkopmamnpaa
open Go.RowKit Go.Lib

def Bd (b : Int) (s : RS) : Prop := (-1 ≤ s.own ∧ s.own ≤ b) ∧ (-1 ≤ s.mark ∧ s.mark ≤ b) ∧ (0 ≤ s.put ∧ s.put ≤ b) ∧ (0 ≤ s.lf ∧ s.lf ≤ b)
theorem insS_bd {b : Int} {l : List (Int × Int)} {s : RS} (z : Int) {ids : List Int} (h : Bd b s) (hm : ids.length ≤ 31) : Bd (b + 31) (insS l s z ids).2 := by
  obtain ⟨own, mk, put, lf, ov⟩ := s
  obtain ⟨⟨h1, h2⟩, ⟨h3, h4⟩, ⟨h5, h6⟩, ⟨h7, h8⟩⟩ := h
  simp only at h1 h2 h3 h4 h5 h6 h7 h8
  unfold insS
  split
  · exact ⟨⟨h1, by show own ≤ _; omega⟩, ⟨h3, by show mk ≤ _; omega⟩, ⟨h5, by show put ≤ _; omega⟩, ⟨h7, by show lf ≤ _; omega⟩⟩
  · rename_i hn
    have h9 : ¬ lf < (ids.length : Int) := fun h => hn (.inr h)
    refine ⟨?_, ?_, ?_, ?_⟩ <;> (dsimp only; constructor <;> (try split) <;> omega)
theorem mkS_bd {b : Int} {li : List UInt8} {l : List (Int × Int)} {s : RS} {e : Ent} (h : Bd b s) : Bd (b + 31) (mkS li l s e).2 := by
  unfold mkS
  split
  · obtain ⟨⟨h1, h2⟩, ⟨h3, h4⟩, ⟨h5, h6⟩, ⟨h7, h8⟩⟩ := h
    exact ⟨⟨h1, show s.own ≤ b + 31 by omega⟩, ⟨h3, show s.mark ≤ b + 31 by omega⟩, ⟨h5, show s.put ≤ b + 31 by omega⟩, ⟨h7, show s.lf ≤ b + 31 by omega⟩⟩
  · exact insS_bd _ h (by rw [idsI_length]; exact markI_le e)
theorem insS_few {l : List (Int × Int)} {s : RS} (z : Int) {ids : List Int} (hm : ids.length ≤ 31) : (insS l s z ids).1.length ≤ l.length + 31 := by
  unfold insS
  split
  · show l.length ≤ _
    omega
  · have := insG_length l z ids
    show (insG l z ids).length ≤ _
    omega
theorem mkS_few {li : List UInt8} {l : List (Int × Int)} {s : RS} {e : Ent} : (mkS li l s e).1.length ≤ l.length + 31 := by
  unfold mkS
  split
  · show l.length ≤ _
    omega
  · exact insS_few _ (by rw [idsI_length]; exact markI_le e)
def actM (li : List UInt8) (l : List (Int × Int)) (s : RS) (z : Nat) (e : Ent) : List (Int × Int) × RS := mkS li l { s with own := (z : Nat) } e
def actP (li : List UInt8) (l : List (Int × Int)) (s : RS) (z : Nat) (e : Ent) : List (Int × Int) × RS := insS (actM li l s z e).1 (actM li l s z e).2 (if z < l.length ∧ ¬ e.2.1 / 2048 % 2 = 1 then (actM li l s z e).2.own + 1 else (actM li l s z e).2.own) (idsI li e.2.2.1 (hereI e))
/-- What an entry does at a place. -/
def actW (li : List UInt8) (l : List (Int × Int)) (s : RS) (z : Nat) (e : Ent) : List (Int × Int) × RS × Int × Int :=
  ((actP li l s z e).1, if z < l.length ∧ e.2.1 / 2 ^ 15 % 2 = 1 then { (actP li l s z e).2 with mark := (actP li l s z e).2.own } else (actP li l s z e).2,
   if (actP li l s z e).2.ov = true then ((actP li l s z e).1.length : Int) else (actM li l s z e).2.own, if (actP li l s z e).2.ov = true then ((actP li l s z e).1.length : Int) else (actM li l s z e).2.own + 1 + (hereI e : Nat))
set_option maxRecDepth 100000 in
set_option maxHeartbeats 12800000 in
theorem iact_any (bk : Option Nat) (L Bt B gt gl gr N : Nat) (bs : List UInt8) (rs : List RP) (S : Nat) (l : List (Int × Int)) (s : RS) (z : Nat) (e : Ent) (w : World) (h : LRun bk B gt gl gr N l s w) (hT : IIs L Bt gt bs rs S w) (hat : num bs 16 4 ≤ bs.length) (hBl : B ≤ gl) (hBr : B ≤ gr) (hB : B ≤ w.heap.size) (hN : N ≤ w.heap.size) (hL : L ≤ B) (hl : l.length ≤ 900000) (hF : e.2.1 ≤ 65535) (hA : e.2.2.1 ≤ 65535) (hBv : e.2.2.2 ≤ 65535) (hin : PutsI (bs.length - num bs 16 4) e)
    (hz : z ≤ 900000) (hbd : (-1 ≤ s.mark ∧ s.mark ≤ 900000) ∧ (0 ≤ s.put ∧ s.put ≤ 900000) ∧ (0 ≤ s.lf ∧ s.lf ≤ 900000)) :
    Calls Try.prog 76 #[.pointer (some ⟨gr, 0, none⟩), .int .i64 (z : Nat), entV4 e] w fun r w' => r = .returned (.tuple #[.int .i64 (actW (bs.drop (num bs 16 4)) l s z e).2.2.1, .int .i64 (actW (bs.drop (num bs 16 4)) l s z e).2.2.2]) ∧ LRun bk B gt gl gr N (actW (bs.drop (num bs 16 4)) l s z e).1 (actW (bs.drop (num bs 16 4)) l s z e).2.1 w' ∧ KeepC B (ownJ gl gr N bk) w w' := by
  have hAC := allocC
  have hAF := allocF
  have HIT := Lib.hid (fun V (hV : KeepC B (ownJ gl gr N bk) w V) => hT.keepJ hV hL)
  obtain ⟨li, hli⟩ : ∃ li, li = bs.drop (num bs 16 4) := ⟨_, rfl⟩
  have hbd0 : Bd 900000 { s with own := (z : Nat) } := ⟨⟨by show (-1 : Int) ≤ (z : Nat); omega, by show ((z : Nat) : Int) ≤ _; omega⟩, hbd⟩
  have HPM := Lib.hid (fun V (hV : KeepC B (ownJ gl gr N bk) w V) (hi : LRun bk B gt gl gr N l { s with own := (z : Nat) } V) => show Calls Try.prog 120 #[.pointer (some ⟨gr, 0, none⟩), entV4 e] V fun r w' => r = .returned (.tuple #[]) ∧ LRun bk B gt gl gr N (actM li l s z e).1 (actM li l s z e).2 w' ∧ KeepC B (ownJ gl gr N bk) V w' from by
    have h1 : Bd 1000000000 { s with own := (z : Nat) } := by
      obtain ⟨⟨h1, h2⟩, ⟨h3, h4⟩, ⟨h5, h6⟩, ⟨h7, h8⟩⟩ := hbd0
      exact ⟨⟨h1, by omega⟩, ⟨h3, by omega⟩, ⟨h5, by omega⟩, ⟨h7, by omega⟩⟩
    have h2 := putm_any bk L Bt B gt gl gr N bs rs S l { s with own := (z : Nat) } e V hi (HIT.out V hV) hat hBl hBr (Nat.le_trans hB hV.size) (Nat.le_trans hN hV.size) hL (by omega) hF hBv hin.2 h1.1 h1.2.1 h1.2.2.1 h1.2.2.2
    rw [← hli] at h2
    exact h2)
  have HPL := Lib.hid (fun V (hV : KeepC B (ownJ gl gr N bk) w V) => by
    have h2 := (HIT.out V hV).place hat e hF hA hin.1
    rw [← hli] at h2
    exact h2)
  have hm31 := hereI_le e
  have hMb : Bd 1000000000 (actM li l s z e).2 := by
    have := mkS_bd (li := li) (l := l) (e := e) hbd0
    obtain ⟨⟨h1, h2⟩, ⟨h3, h4⟩, ⟨h5, h6⟩, ⟨h7, h8⟩⟩ := this
    exact ⟨⟨h1, by unfold actM; omega⟩, ⟨h3, by unfold actM; omega⟩, ⟨h5, by unfold actM; omega⟩, ⟨h7, by unfold actM; omega⟩⟩
  have hMl : (actM li l s z e).1.length ≤ 1000000 := by
    have := mkS_few (li := li) (l := l) (s := { s with own := (z : Nat) }) (e := e)
    unfold actM
    omega
  have hMo : (actM li l s z e).2.own ≤ 900031 := by
    have := (mkS_bd (li := li) (l := l) (e := e) hbd0).1.2
    unfold actM
    omega
  have HIN := Lib.hid (fun V (hV : KeepC B (ownJ gl gr N bk) w V) (hi : LRun bk B gt gl gr N (actM li l s z e).1 (actM li l s z e).2 V) (y : Int) (hy : y = if z < l.length ∧ ¬ e.2.1 / 2048 % 2 = 1 then (actM li l s z e).2.own + 1 else (actM li l s z e).2.own) (ai : Option Addr) (ci : Nat) (hh : Has V ai (iv (idsI li e.2.2.1 (hereI e)))) => show Calls Try.prog 121 #[.pointer (some ⟨gr, 0, none⟩), .int .i64 y, .slice ai (hereI e) ci] V fun r w' => r = .returned (.tuple #[]) ∧ LRun bk B gt gl gr N (actP li l s z e).1 (actP li l s z e).2 w' ∧ KeepC B (ownJ gl gr N bk) V w' from by
    subst hy
    exact insert_any bk B gt gl gr N _ _ _ ai (hereI e) ci _ V hi hh (idsI_length _ _ _) hBl hBr (Nat.le_trans hB hV.size) (Nat.le_trans hN hV.size) hMl hm31 hMb.1 hMb.2.1 hMb.2.2.1 hMb.2.2.2)
  rw [← hli, show actW li l s z e = ((actP li l s z e).1, if z < l.length ∧ e.2.1 / 2 ^ 15 % 2 = 1 then { (actP li l s z e).2 with mark := (actP li l s z e).2.own } else (actP li l s z e).2, if (actP li l s z e).2.ov = true then ((actP li l s z e).1.length : Int) else (actM li l s z e).2.own, if (actP li l s z e).2.ov = true then ((actP li l s z e).1.length : Int) else (actM li l s z e).2.own + 1 + (hereI e : Nat)) from rfl]
  obtain ⟨M, hM⟩ : ∃ M, M = actM li l s z e := ⟨_, rfl⟩
  obtain ⟨P, hP⟩ : ∃ P, P = actP li l s z e := ⟨_, rfl⟩
  obtain ⟨hr, hhr⟩ : ∃ hr, hr = hereI e := ⟨_, rfl⟩
  rw [← hM] at HPM HIN hMb hMo
  rw [← hP] at HIN
  rw [← hhr] at HPL HIN hm31
  rw [← hM, ← hP, ← hhr]
  clear hM hP hhr hMl hli
  obtain ⟨M1, own3, mk3, put3, lf3, ov3⟩ := M
  obtain ⟨P1, own5, mk5, put5, lf5, ov5⟩ := P
  obtain ⟨own0, mk0, put0, lf0, ov0⟩ := s
  obtain ⟨e0, F, A, Bv⟩ := e
  simp only [entV4] at HPM HPL HIN hF hA hBv hMb hMo ⊢
  obtain ⟨⟨hmb1, _⟩, _⟩ := hMb
  simp only at hmb1
  obtain ⟨W, hW⟩ : ∃ W, W = w.alloc (.cells #[.int .i64 (e0 : Nat), .int .i64 (F : Nat), .int .i64 (A : Nat), .int .i64 (Bv : Nat)] 34) := ⟨_, rfl⟩
  have hbW : Below w.heap.size w W := by rw [hW]; exact balloc (brefl w) _
  have xe : W.heap[w.heap.size]? = some (.cells #[.int .i64 (e0 : Nat), .int .i64 (F : Nat), .int .i64 (A : Nat), .int .i64 (Bv : Nat)] 34 (0, 0)) := by rw [hW]; exact (heap_push _ _ _).trans (if_pos rfl)
  have HK := Lib.hid (KeepC.of (B := B) (own := ownJ gl gr N bk) hbW hB)
  have hLW := h.below hbW
  obtain ⟨a, c, hg, _⟩ := hLW.line
  have hat1 := gat_any B gl a c l W hg (z : Nat)
  obtain ⟨p, hp⟩ : ∃ p, p = atG l (z : Nat) := ⟨_, rfl⟩
  obtain ⟨p1, p2⟩ := p
  have hinw : inG l (z : Nat) = decide (z < l.length) := by unfold inG; simp
  rw [← hp, hinw] at hat1
  simp only [glyphA] at hat1
  have HLW := Lib.hid hLW
  have HXE := Lib.hid xe
  have qrw := fun o => cell_of_heap h.run o
  simp only [runC] at qrw
  have lrw := (Array.getElem?_eq_some_iff.1 h.run).1
  have hzW := hbW.size
  have hne1 : ¬ gr = w.heap.size := by omega
  have hne2 : ¬ w.heap.size = gr := by omega
  clear hinw hp h hT hbW hLW hg xe hbd hbd0 hin
  by_cases hzl : z < l.length
  · rw [decide_eq_true hzl] at hat1
    have HAT := Lib.hid hat1
    clear hat1
    by_cases hb : F / 2048 % 2 = 1
    · have bB : bits .and .i64 (F : Int) 2048 = 2048 := flag_yes F 11 hF (by decide) 2048 rfl hb
      go_enter Try.func76, Try.ntmps76
      go_wp2_with fail
      rw [← hW]
      clear hW qrw lrw
      refine HAT.out.mono ?_
      rintro r w1 ⟨rfl, hb1⟩
      have hL1 := HLW.out.below hb1
      have hx1 := (hb1.block _ (Array.getElem?_eq_some_iff.1 HXE.out).1).trans HXE.out
      have qr1 := fun o => cell_of_heap hL1.run o
      have fr1 := fun o => froz_of_heap hL1.run o
      have lr1 := (Array.getElem?_eq_some_iff.1 hL1.run).1
      have qe1 := fun o => cell_of_heap hx1 o
      have le1 := (Array.getElem?_eq_some_iff.1 hx1).1
      simp only [runC] at qr1
      have hz1 := hb1.size
      obtain ⟨hL2, hk2⟩ := hL1.set (o := 2) (v := .int .i64 (z : Nat)) (s' := ⟨(z : Nat), mk0, put0, lf0, ov0⟩) hBr rfl
      have hx2 := (hk2.kept _ _ _ _ hx1 (ownJ_no (by decide) (by decide) (by decide) _)).trans hx1
      have hk2z := hk2.size
      obtain ⟨V2, hV2⟩ : ∃ V2, V2 = (w1.setCell ⟨gr, 2, none⟩ (.int .i64 (z : Nat))).alloc (Obj.cells #[.int .i64 p1, .int .i64 p2] 130) := ⟨_, rfl⟩
      have hbV : Below (w1.setCell ⟨gr, 2, none⟩ (.int .i64 (z : Nat))).heap.size (w1.setCell ⟨gr, 2, none⟩ (.int .i64 (z : Nat))) V2 := by rw [hV2]; exact balloc (brefl _) _
      have HK2 := Lib.hid (((HK.out.trans (KeepC.of hb1 (by omega))).trans hk2).trans (KeepC.of hbV (by omega)))
      have HL2 := Lib.hid (hL2.below hbV)
      have HX2 := Lib.hid ((hbV.block _ (Array.getElem?_eq_some_iff.1 hx2).1).trans hx2)
      clear hL1 hx1 hbV hL2 hx2 hk2 hb1
      go_wp2_with fail
      rw [← hV2]
      clear hV2 qr1 fr1 lr1 qe1 le1
      refine (HPM.out V2 HK2.out HL2.out).mono ?_
      rintro r w3 ⟨rfl, h3, k3⟩
      have x3 := (k3.kept _ _ _ _ HX2.out (ownJ_no (by decide) (by decide) (by decide) _)).trans HX2.out
      have HK3 := Lib.hid (HK2.out.trans k3)
      have H3 := Lib.hid h3
      have HX3 := Lib.hid x3
      have hr3 := h3.run
      have qr3 := fun o => cell_of_heap hr3 o
      have lr3 := (Array.getElem?_eq_some_iff.1 hr3).1
      have qe3 := fun o => cell_of_heap x3 o
      have le3 := (Array.getElem?_eq_some_iff.1 x3).1
      simp only [runC] at qr3
      have hz3 := HK3.out.size
      have HPL3 := Lib.hid (fun X (hX : Below w3.heap.size w3 X) => HPL.out X (HK3.out.trans (KeepC.of hX (by omega))))
      clear h3 k3 x3 hr3
      go_wp2_with fail
      refine wp_region_tree (.step 0 (.step 1 (.step 2 (.step 3 (.step 4 (.step 5 (.step 6 .nil))))))) (by kernel_rfl) (by kernel_rfl) (by kernel_rfl) (by kernel_rfl) (by intro _ _ d_ _ _ h_; cases d_ <;> first | exact h_ | (dsimp +zetaDelta only at h_ ⊢; exact h_)) (fun w' => ∃ p : Wld w3 [], w' = p.val) (wld_start _ _) ?_
      have hG_ := @wldC w3
      (refine tree_quiet gtA (by rfl) (by rfl) (fun K_ hK_ => ?_); go_big_quiet_op; refine hK_ _ ?_; clear hK_ K_)
      (refine tree_quiet gtA (by rfl) (by rfl) (fun K_ hK_ => ?_); go_big_quiet_op; refine hK_ _ ?_; clear hK_ K_)
      (refine tree_quiet gtA (by rfl) (by rfl) (fun K_ hK_ => ?_); go_big_quiet_op; refine hK_ _ ?_; clear hK_ K_)
      (refine tree_quiet gtA (by rfl) (by rfl) (fun K_ hK_ => ?_); go_big_quiet_op; refine hK_ _ ?_; clear hK_ K_)
      (refine tree_quiet gtA (by rfl) (by rfl) (fun K_ hK_ => ?_); go_big_quiet_op; refine hK_ _ ?_; clear hK_ K_)
      (refine tree_run gtA (by rfl) (by rfl) (fun K_ hK_ => ?_); have HK_ := Lib.hid hK_; clear hK_; go_wp2_with ((go_at_call 114; (with_reducible refine (HPL3.out _ (by exact blw)).mono ?_); rintro r w4 ⟨a', c', rfl, ho, hb4⟩; have HH4 := Lib.hid (has_of_owns ho); clear ho)); refine HK_.out _ _ (wld_ofA) ?_; clear HK_)
      (refine tree_quiet gtA (by rfl) (by rfl) (fun K_ hK_ => ?_); go_big_quiet_op; refine hK_ _ ?_; clear hK_ K_)
      refine tree_nil ?_
      clear hG_
      have hb34 : Below w3.heap.size w3 w4 := blw
      have HK4 := Lib.hid (HK3.out.trans (KeepC.of (own := ownJ gl gr N bk) hb34 (by omega)))
      have H4 := Lib.hid (H3.out.below hb34)
      have x4 := (hb34.block _ le3).trans HX3.out
      have qe4 := fun o => cell_of_heap x4 o
      have le4 := (Array.getElem?_eq_some_iff.1 x4).1
      have HX4 := Lib.hid x4
      clear x4 hb34 hb4 qr3 lr3 qe3 le3
      go_wp2_with fail
      refine (HIN.out w4 HK4.out H4.out _ (by rw [if_neg (fun h => h.2 hb)]) _ _ HH4.out).mono ?_
      rintro r w5 ⟨rfl, h5, k5⟩
      have x5 := (k5.kept _ _ _ _ HX4.out (ownJ_no (by decide) (by decide) (by decide) _)).trans HX4.out
      have HK5 := Lib.hid (HK4.out.trans k5)
      have H5 := Lib.hid h5
      have hr5 := h5.run
      have qr5 := fun o => cell_of_heap hr5 o
      have fr5 := fun o => froz_of_heap hr5 o
      have lr5 := (Array.getElem?_eq_some_iff.1 hr5).1
      have qe5 := fun o => cell_of_heap x5 o
      have le5 := (Array.getElem?_eq_some_iff.1 x5).1
      simp only [runC] at qr5
      clear h5 k5 x5 hr5 qe4 le4
      by_cases hm : F / 2 ^ 15 % 2 = 1
      · have bM : bits .and .i64 (F : Int) 32768 = 32768 := flag_yes F 15 hF (by decide) 32768 rfl hm
        obtain ⟨hL6, hk6⟩ := H5.out.set (o := 3) (v := .int .i64 own5) (s' := ⟨own5, own5, put5, lf5, ov5⟩) hBr rfl
        have HK6 := Lib.hid (HK5.out.trans hk6)
        have H6 := Lib.hid hL6
        have qr6 := fun o => cell_of_heap hL6.run o
        have lr6 := (Array.getElem?_eq_some_iff.1 hL6.run).1
        simp only [runC] at qr6
        obtain ⟨w6, hw6⟩ : ∃ w6, w6 = w5.setCell ⟨gr, 3, none⟩ (.int .i64 own5) := ⟨_, rfl⟩
        rw [← hw6] at H6 HK6
        clear hL6 hk6
        cases ov5 with
        | true =>
          obtain ⟨a6, c6, hg6, _⟩ := H6.out.line
          have HLN := Lib.hid (fun X (hX : Below w6.heap.size w6 X) => glen_any B gl a6 c6 P1 X (hg6.below hX))
          have hr6 := H6.out.run
          have q66 := fun o => cell_of_heap hr6 o
          have l66 := (Array.getElem?_eq_some_iff.1 hr6).1
          simp only [runC] at q66
          clear hg6 hr6
          go_wp2_with fail
          rw [← hw6]
          clear qr5 fr5 lr5 qe5 le5 qr6 lr6 hw6
          refine wp_region_tree (.step 0 (.step 1 (.step 2 (.step 3 (.step 5 (.step 6 (.step 7 (.step 8 (.step 4 (.step 9 (.step 10 (.step 11 .nil)))))))))))) (by kernel_rfl) (by kernel_rfl) (by kernel_rfl) (by kernel_rfl) (by intro _ _ d_ _ _ h_; cases d_ <;> first | exact h_ | (dsimp +zetaDelta only at h_ ⊢; exact h_)) (fun w' => ∃ p : Wld w6 [], w' = p.val) (wld_start _ _) ?_
          have hG_ := @wldC w6
          (refine tree_quiet gtA (by rfl) (by rfl) (fun K_ hK_ => ?_); go_big_quiet_op; refine hK_ _ ?_; clear hK_ K_)
          (refine tree_quiet gtA (by rfl) (by rfl) (fun K_ hK_ => ?_); go_big_quiet_op; refine hK_ _ ?_; clear hK_ K_)
          (refine tree_quiet gtA (by rfl) (by rfl) (fun K_ hK_ => ?_); go_big_quiet_op; refine hK_ _ ?_; clear hK_ K_)
          (refine tree_quiet gtA (by rfl) (by rfl) (fun K_ hK_ => ?_); go_big_quiet_op; refine hK_ _ ?_; clear hK_ K_)
          (refine tree_quiet gtA (by rfl) (by rfl) (fun K_ hK_ => ?_); go_big_quiet_op; refine hK_ _ ?_; clear hK_ K_)
          (refine tree_quiet gtA (by rfl) (by rfl) (fun K_ hK_ => ?_); go_big_quiet_op; refine hK_ _ ?_; clear hK_ K_)
          (refine tree_quiet gtA (by rfl) (by rfl) (fun K_ hK_ => ?_); go_big_quiet_op; refine hK_ _ ?_; clear hK_ K_)
          (refine tree_quiet gtA (by rfl) (by rfl) (fun K_ hK_ => ?_); go_big_quiet_op; refine hK_ _ ?_; clear hK_ K_)
          (refine tree_run gtA (by rfl) (by rfl) (fun K_ hK_ => ?_); have HK_ := Lib.hid hK_; clear hK_; go_wp2_with ((go_at_call 117; (with_reducible refine (HLN.out _ (by exact blw)).mono ?_); rintro r w_ ⟨rfl, rfl⟩)); refine HK_.out _ _ (wld_ofA) ?_; clear HK_)
          (refine tree_run gtA (by rfl) (by rfl) (fun K_ hK_ => ?_); have HK_ := Lib.hid hK_; clear hK_; go_wp2_with ((go_at_call 117; (with_reducible refine (HLN.out _ (by exact blw)).mono ?_); rintro r w_ ⟨rfl, rfl⟩)); refine HK_.out _ _ (wld_ofA) ?_; clear HK_)
          (refine tree_quiet gtA (by rfl) (by rfl) (fun K_ hK_ => ?_); go_big_quiet_op; refine hK_ _ ?_; clear hK_ K_)
          (refine tree_quiet gtA (by rfl) (by rfl) (fun K_ hK_ => ?_); go_big_quiet_op; refine hK_ _ ?_; clear hK_ K_)
          refine tree_nil ?_
          clear hG_
          go_wp2_with fail
          go_ret2
          refine ⟨by first | rfl | (rw [if_pos rfl, if_pos rfl]; rfl), ?_, HK6.out.trans (KeepC.of (by exact blw) (by have := HK6.out.size; omega))⟩
          exact H6.out.below (by exact blw)
        | false =>
          go_wp2_with fail
          rw [← hw6]
          go_ret2
          refine ⟨by first | rfl | (rw [if_neg (by decide), if_neg (by decide)]; rfl), ?_, HK6.out⟩
          exact H6.out
      · have bM : bits .and .i64 (F : Int) 32768 = 0 := flag_no F 15 hF (by decide) 32768 rfl hm
        have H6 := Lib.hid H5.out
        have HK6 := Lib.hid HK5.out
        obtain ⟨w6, hw6⟩ : ∃ w6, w6 = w5 := ⟨_, rfl⟩
        rw [← hw6] at H6 HK6
        cases ov5 with
        | true =>
          obtain ⟨a6, c6, hg6, _⟩ := H6.out.line
          have HLN := Lib.hid (fun X (hX : Below w6.heap.size w6 X) => glen_any B gl a6 c6 P1 X (hg6.below hX))
          have hr6 := H6.out.run
          have q66 := fun o => cell_of_heap hr6 o
          have l66 := (Array.getElem?_eq_some_iff.1 hr6).1
          simp only [runC] at q66
          clear hg6 hr6
          go_wp2_with fail
          rw [← hw6]
          clear qr5 fr5 lr5 qe5 le5 hw6
          refine wp_region_tree (.step 0 (.step 1 (.step 2 (.step 3 (.step 5 (.step 6 (.step 7 (.step 8 (.step 4 (.step 9 (.step 10 (.step 11 .nil)))))))))))) (by kernel_rfl) (by kernel_rfl) (by kernel_rfl) (by kernel_rfl) (by intro _ _ d_ _ _ h_; cases d_ <;> first | exact h_ | (dsimp +zetaDelta only at h_ ⊢; exact h_)) (fun w' => ∃ p : Wld w6 [], w' = p.val) (wld_start _ _) ?_
          have hG_ := @wldC w6
          (refine tree_quiet gtA (by rfl) (by rfl) (fun K_ hK_ => ?_); go_big_quiet_op; refine hK_ _ ?_; clear hK_ K_)
          (refine tree_quiet gtA (by rfl) (by rfl) (fun K_ hK_ => ?_); go_big_quiet_op; refine hK_ _ ?_; clear hK_ K_)
          (refine tree_quiet gtA (by rfl) (by rfl) (fun K_ hK_ => ?_); go_big_quiet_op; refine hK_ _ ?_; clear hK_ K_)
          (refine tree_quiet gtA (by rfl) (by rfl) (fun K_ hK_ => ?_); go_big_quiet_op; refine hK_ _ ?_; clear hK_ K_)
          (refine tree_quiet gtA (by rfl) (by rfl) (fun K_ hK_ => ?_); go_big_quiet_op; refine hK_ _ ?_; clear hK_ K_)
          (refine tree_quiet gtA (by rfl) (by rfl) (fun K_ hK_ => ?_); go_big_quiet_op; refine hK_ _ ?_; clear hK_ K_)
          (refine tree_quiet gtA (by rfl) (by rfl) (fun K_ hK_ => ?_); go_big_quiet_op; refine hK_ _ ?_; clear hK_ K_)
          (refine tree_quiet gtA (by rfl) (by rfl) (fun K_ hK_ => ?_); go_big_quiet_op; refine hK_ _ ?_; clear hK_ K_)
          (refine tree_run gtA (by rfl) (by rfl) (fun K_ hK_ => ?_); have HK_ := Lib.hid hK_; clear hK_; go_wp2_with ((go_at_call 117; (with_reducible refine (HLN.out _ (by exact blw)).mono ?_); rintro r w_ ⟨rfl, rfl⟩)); refine HK_.out _ _ (wld_ofA) ?_; clear HK_)
          (refine tree_run gtA (by rfl) (by rfl) (fun K_ hK_ => ?_); have HK_ := Lib.hid hK_; clear hK_; go_wp2_with ((go_at_call 117; (with_reducible refine (HLN.out _ (by exact blw)).mono ?_); rintro r w_ ⟨rfl, rfl⟩)); refine HK_.out _ _ (wld_ofA) ?_; clear HK_)
          (refine tree_quiet gtA (by rfl) (by rfl) (fun K_ hK_ => ?_); go_big_quiet_op; refine hK_ _ ?_; clear hK_ K_)
          (refine tree_quiet gtA (by rfl) (by rfl) (fun K_ hK_ => ?_); go_big_quiet_op; refine hK_ _ ?_; clear hK_ K_)
          refine tree_nil ?_
          clear hG_
          go_wp2_with fail
          go_ret2
          refine ⟨by first | rfl | (rw [if_pos rfl, if_pos rfl]; rfl), ?_, HK6.out.trans (KeepC.of (by exact blw) (by have := HK6.out.size; omega))⟩
          exact H6.out.below (by exact blw)
        | false =>
          go_wp2_with fail
          rw [← hw6]
          go_ret2
          refine ⟨by first | rfl | (rw [if_neg (by decide), if_neg (by decide)]; rfl), ?_, HK6.out⟩
          exact H6.out
    · have bB : bits .and .i64 (F : Int) 2048 = 0 := flag_no F 11 hF (by decide) 2048 rfl hb
      go_enter Try.func76, Try.ntmps76
      go_wp2_with fail
      rw [← hW]
      clear hW qrw lrw
      refine HAT.out.mono ?_
      rintro r w1 ⟨rfl, hb1⟩
      have hL1 := HLW.out.below hb1
      have hx1 := (hb1.block _ (Array.getElem?_eq_some_iff.1 HXE.out).1).trans HXE.out
      have qr1 := fun o => cell_of_heap hL1.run o
      have fr1 := fun o => froz_of_heap hL1.run o
      have lr1 := (Array.getElem?_eq_some_iff.1 hL1.run).1
      have qe1 := fun o => cell_of_heap hx1 o
      have le1 := (Array.getElem?_eq_some_iff.1 hx1).1
      simp only [runC] at qr1
      have hz1 := hb1.size
      obtain ⟨hL2, hk2⟩ := hL1.set (o := 2) (v := .int .i64 (z : Nat)) (s' := ⟨(z : Nat), mk0, put0, lf0, ov0⟩) hBr rfl
      have hx2 := (hk2.kept _ _ _ _ hx1 (ownJ_no (by decide) (by decide) (by decide) _)).trans hx1
      have hk2z := hk2.size
      obtain ⟨V2, hV2⟩ : ∃ V2, V2 = (w1.setCell ⟨gr, 2, none⟩ (.int .i64 (z : Nat))).alloc (Obj.cells #[.int .i64 p1, .int .i64 p2] 130) := ⟨_, rfl⟩
      have hbV : Below (w1.setCell ⟨gr, 2, none⟩ (.int .i64 (z : Nat))).heap.size (w1.setCell ⟨gr, 2, none⟩ (.int .i64 (z : Nat))) V2 := by rw [hV2]; exact balloc (brefl _) _
      have HK2 := Lib.hid (((HK.out.trans (KeepC.of hb1 (by omega))).trans hk2).trans (KeepC.of hbV (by omega)))
      have HL2 := Lib.hid (hL2.below hbV)
      have HX2 := Lib.hid ((hbV.block _ (Array.getElem?_eq_some_iff.1 hx2).1).trans hx2)
      clear hL1 hx1 hbV hL2 hx2 hk2 hb1
      go_wp2_with fail
      rw [← hV2]
      clear hV2 qr1 fr1 lr1 qe1 le1
      refine (HPM.out V2 HK2.out HL2.out).mono ?_
      rintro r w3 ⟨rfl, h3, k3⟩
      have x3 := (k3.kept _ _ _ _ HX2.out (ownJ_no (by decide) (by decide) (by decide) _)).trans HX2.out
      have HK3 := Lib.hid (HK2.out.trans k3)
      have H3 := Lib.hid h3
      have HX3 := Lib.hid x3
      have hr3 := h3.run
      have qr3 := fun o => cell_of_heap hr3 o
      have lr3 := (Array.getElem?_eq_some_iff.1 hr3).1
      have qe3 := fun o => cell_of_heap x3 o
      have le3 := (Array.getElem?_eq_some_iff.1 x3).1
      simp only [runC] at qr3
      have hz3 := HK3.out.size
      have HPL3 := Lib.hid (fun X (hX : Below w3.heap.size w3 X) => HPL.out X (HK3.out.trans (KeepC.of hX (by omega))))
      clear h3 k3 x3 hr3
      go_wp2_with fail
      refine wp_region_tree (.step 0 (.step 1 (.step 2 (.step 3 (.step 4 (.step 5 (.step 6 .nil))))))) (by kernel_rfl) (by kernel_rfl) (by kernel_rfl) (by kernel_rfl) (by intro _ _ d_ _ _ h_; cases d_ <;> first | exact h_ | (dsimp +zetaDelta only at h_ ⊢; exact h_)) (fun w' => ∃ p : Wld w3 [], w' = p.val) (wld_start _ _) ?_
      have hG_ := @wldC w3
      (refine tree_quiet gtA (by rfl) (by rfl) (fun K_ hK_ => ?_); go_big_quiet_op; refine hK_ _ ?_; clear hK_ K_)
      (refine tree_quiet gtA (by rfl) (by rfl) (fun K_ hK_ => ?_); go_big_quiet_op; refine hK_ _ ?_; clear hK_ K_)
      (refine tree_quiet gtA (by rfl) (by rfl) (fun K_ hK_ => ?_); go_big_quiet_op; refine hK_ _ ?_; clear hK_ K_)
      (refine tree_quiet gtA (by rfl) (by rfl) (fun K_ hK_ => ?_); go_big_quiet_op; refine hK_ _ ?_; clear hK_ K_)
      (refine tree_quiet gtA (by rfl) (by rfl) (fun K_ hK_ => ?_); go_big_quiet_op; refine hK_ _ ?_; clear hK_ K_)
      (refine tree_run gtA (by rfl) (by rfl) (fun K_ hK_ => ?_); have HK_ := Lib.hid hK_; clear hK_; go_wp2_with ((go_at_call 114; (with_reducible refine (HPL3.out _ (by exact blw)).mono ?_); rintro r w4 ⟨a', c', rfl, ho, hb4⟩; have HH4 := Lib.hid (has_of_owns ho); clear ho)); refine HK_.out _ _ (wld_ofA) ?_; clear HK_)
      (refine tree_quiet gtA (by rfl) (by rfl) (fun K_ hK_ => ?_); go_big_quiet_op; refine hK_ _ ?_; clear hK_ K_)
      refine tree_nil ?_
      clear hG_
      have hb34 : Below w3.heap.size w3 w4 := blw
      have HK4 := Lib.hid (HK3.out.trans (KeepC.of (own := ownJ gl gr N bk) hb34 (by omega)))
      have H4 := Lib.hid (H3.out.below hb34)
      have x4 := (hb34.block _ le3).trans HX3.out
      have qe4 := fun o => cell_of_heap x4 o
      have le4 := (Array.getElem?_eq_some_iff.1 x4).1
      have HX4 := Lib.hid x4
      clear x4 hb34 hb4 qr3 lr3 qe3 le3
      go_wp2_with fail
      refine (HIN.out w4 HK4.out H4.out _ (by rw [if_pos ⟨hzl, hb⟩]) _ _ HH4.out).mono ?_
      rintro r w5 ⟨rfl, h5, k5⟩
      have x5 := (k5.kept _ _ _ _ HX4.out (ownJ_no (by decide) (by decide) (by decide) _)).trans HX4.out
      have HK5 := Lib.hid (HK4.out.trans k5)
      have H5 := Lib.hid h5
      have hr5 := h5.run
      have qr5 := fun o => cell_of_heap hr5 o
      have fr5 := fun o => froz_of_heap hr5 o
      have lr5 := (Array.getElem?_eq_some_iff.1 hr5).1
      have qe5 := fun o => cell_of_heap x5 o
      have le5 := (Array.getElem?_eq_some_iff.1 x5).1
      simp only [runC] at qr5
      clear h5 k5 x5 hr5 qe4 le4
      by_cases hm : F / 2 ^ 15 % 2 = 1
      · have bM : bits .and .i64 (F : Int) 32768 = 32768 := flag_yes F 15 hF (by decide) 32768 rfl hm
        obtain ⟨hL6, hk6⟩ := H5.out.set (o := 3) (v := .int .i64 own5) (s' := ⟨own5, own5, put5, lf5, ov5⟩) hBr rfl
        have HK6 := Lib.hid (HK5.out.trans hk6)
        have H6 := Lib.hid hL6
        have qr6 := fun o => cell_of_heap hL6.run o
        have lr6 := (Array.getElem?_eq_some_iff.1 hL6.run).1
        simp only [runC] at qr6
        obtain ⟨w6, hw6⟩ : ∃ w6, w6 = w5.setCell ⟨gr, 3, none⟩ (.int .i64 own5) := ⟨_, rfl⟩
        rw [← hw6] at H6 HK6
        clear hL6 hk6
        cases ov5 with
        | true =>
          obtain ⟨a6, c6, hg6, _⟩ := H6.out.line
          have HLN := Lib.hid (fun X (hX : Below w6.heap.size w6 X) => glen_any B gl a6 c6 P1 X (hg6.below hX))
          have hr6 := H6.out.run
          have q66 := fun o => cell_of_heap hr6 o
          have l66 := (Array.getElem?_eq_some_iff.1 hr6).1
          simp only [runC] at q66
          clear hg6 hr6
          go_wp2_with fail
          rw [← hw6]
          clear qr5 fr5 lr5 qe5 le5 qr6 lr6 hw6
          refine wp_region_tree (.step 0 (.step 1 (.step 2 (.step 3 (.step 5 (.step 6 (.step 7 (.step 8 (.step 4 (.step 9 (.step 10 (.step 11 .nil)))))))))))) (by kernel_rfl) (by kernel_rfl) (by kernel_rfl) (by kernel_rfl) (by intro _ _ d_ _ _ h_; cases d_ <;> first | exact h_ | (dsimp +zetaDelta only at h_ ⊢; exact h_)) (fun w' => ∃ p : Wld w6 [], w' = p.val) (wld_start _ _) ?_
          have hG_ := @wldC w6
          (refine tree_quiet gtA (by rfl) (by rfl) (fun K_ hK_ => ?_); go_big_quiet_op; refine hK_ _ ?_; clear hK_ K_)
          (refine tree_quiet gtA (by rfl) (by rfl) (fun K_ hK_ => ?_); go_big_quiet_op; refine hK_ _ ?_; clear hK_ K_)
          (refine tree_quiet gtA (by rfl) (by rfl) (fun K_ hK_ => ?_); go_big_quiet_op; refine hK_ _ ?_; clear hK_ K_)
          (refine tree_quiet gtA (by rfl) (by rfl) (fun K_ hK_ => ?_); go_big_quiet_op; refine hK_ _ ?_; clear hK_ K_)
          (refine tree_quiet gtA (by rfl) (by rfl) (fun K_ hK_ => ?_); go_big_quiet_op; refine hK_ _ ?_; clear hK_ K_)
          (refine tree_quiet gtA (by rfl) (by rfl) (fun K_ hK_ => ?_); go_big_quiet_op; refine hK_ _ ?_; clear hK_ K_)
          (refine tree_quiet gtA (by rfl) (by rfl) (fun K_ hK_ => ?_); go_big_quiet_op; refine hK_ _ ?_; clear hK_ K_)
          (refine tree_quiet gtA (by rfl) (by rfl) (fun K_ hK_ => ?_); go_big_quiet_op; refine hK_ _ ?_; clear hK_ K_)
          (refine tree_run gtA (by rfl) (by rfl) (fun K_ hK_ => ?_); have HK_ := Lib.hid hK_; clear hK_; go_wp2_with ((go_at_call 117; (with_reducible refine (HLN.out _ (by exact blw)).mono ?_); rintro r w_ ⟨rfl, rfl⟩)); refine HK_.out _ _ (wld_ofA) ?_; clear HK_)
          (refine tree_run gtA (by rfl) (by rfl) (fun K_ hK_ => ?_); have HK_ := Lib.hid hK_; clear hK_; go_wp2_with ((go_at_call 117; (with_reducible refine (HLN.out _ (by exact blw)).mono ?_); rintro r w_ ⟨rfl, rfl⟩)); refine HK_.out _ _ (wld_ofA) ?_; clear HK_)
          (refine tree_quiet gtA (by rfl) (by rfl) (fun K_ hK_ => ?_); go_big_quiet_op; refine hK_ _ ?_; clear hK_ K_)
          (refine tree_quiet gtA (by rfl) (by rfl) (fun K_ hK_ => ?_); go_big_quiet_op; refine hK_ _ ?_; clear hK_ K_)
          refine tree_nil ?_
          clear hG_
          go_wp2_with fail
          go_ret2
          refine ⟨by first | rfl | (rw [if_pos rfl, if_pos rfl]; rfl), ?_, HK6.out.trans (KeepC.of (by exact blw) (by have := HK6.out.size; omega))⟩
          exact H6.out.below (by exact blw)
        | false =>
          go_wp2_with fail
          rw [← hw6]
          go_ret2
          refine ⟨by first | rfl | (rw [if_neg (by decide), if_neg (by decide)]; rfl), ?_, HK6.out⟩
          exact H6.out
      · have bM : bits .and .i64 (F : Int) 32768 = 0 := flag_no F 15 hF (by decide) 32768 rfl hm
        have H6 := Lib.hid H5.out
        have HK6 := Lib.hid HK5.out
        obtain ⟨w6, hw6⟩ : ∃ w6, w6 = w5 := ⟨_, rfl⟩
        rw [← hw6] at H6 HK6
        cases ov5 with
        | true =>
          obtain ⟨a6, c6, hg6, _⟩ := H6.out.line
          have HLN := Lib.hid (fun X (hX : Below w6.heap.size w6 X) => glen_any B gl a6 c6 P1 X (hg6.below hX))
          have hr6 := H6.out.run
          have q66 := fun o => cell_of_heap hr6 o
          have l66 := (Array.getElem?_eq_some_iff.1 hr6).1
          simp only [runC] at q66
          clear hg6 hr6
          go_wp2_with fail
          rw [← hw6]
          clear qr5 fr5 lr5 qe5 le5 hw6
          refine wp_region_tree (.step 0 (.step 1 (.step 2 (.step 3 (.step 5 (.step 6 (.step 7 (.step 8 (.step 4 (.step 9 (.step 10 (.step 11 .nil)))))))))))) (by kernel_rfl) (by kernel_rfl) (by kernel_rfl) (by kernel_rfl) (by intro _ _ d_ _ _ h_; cases d_ <;> first | exact h_ | (dsimp +zetaDelta only at h_ ⊢; exact h_)) (fun w' => ∃ p : Wld w6 [], w' = p.val) (wld_start _ _) ?_
          have hG_ := @wldC w6
          (refine tree_quiet gtA (by rfl) (by rfl) (fun K_ hK_ => ?_); go_big_quiet_op; refine hK_ _ ?_; clear hK_ K_)
          (refine tree_quiet gtA (by rfl) (by rfl) (fun K_ hK_ => ?_); go_big_quiet_op; refine hK_ _ ?_; clear hK_ K_)
          (refine tree_quiet gtA (by rfl) (by rfl) (fun K_ hK_ => ?_); go_big_quiet_op; refine hK_ _ ?_; clear hK_ K_)
          (refine tree_quiet gtA (by rfl) (by rfl) (fun K_ hK_ => ?_); go_big_quiet_op; refine hK_ _ ?_; clear hK_ K_)
          (refine tree_quiet gtA (by rfl) (by rfl) (fun K_ hK_ => ?_); go_big_quiet_op; refine hK_ _ ?_; clear hK_ K_)
          (refine tree_quiet gtA (by rfl) (by rfl) (fun K_ hK_ => ?_); go_big_quiet_op; refine hK_ _ ?_; clear hK_ K_)
          (refine tree_quiet gtA (by rfl) (by rfl) (fun K_ hK_ => ?_); go_big_quiet_op; refine hK_ _ ?_; clear hK_ K_)
          (refine tree_quiet gtA (by rfl) (by rfl) (fun K_ hK_ => ?_); go_big_quiet_op; refine hK_ _ ?_; clear hK_ K_)
          (refine tree_run gtA (by rfl) (by rfl) (fun K_ hK_ => ?_); have HK_ := Lib.hid hK_; clear hK_; go_wp2_with ((go_at_call 117; (with_reducible refine (HLN.out _ (by exact blw)).mono ?_); rintro r w_ ⟨rfl, rfl⟩)); refine HK_.out _ _ (wld_ofA) ?_; clear HK_)
          (refine tree_run gtA (by rfl) (by rfl) (fun K_ hK_ => ?_); have HK_ := Lib.hid hK_; clear hK_; go_wp2_with ((go_at_call 117; (with_reducible refine (HLN.out _ (by exact blw)).mono ?_); rintro r w_ ⟨rfl, rfl⟩)); refine HK_.out _ _ (wld_ofA) ?_; clear HK_)
          (refine tree_quiet gtA (by rfl) (by rfl) (fun K_ hK_ => ?_); go_big_quiet_op; refine hK_ _ ?_; clear hK_ K_)
          (refine tree_quiet gtA (by rfl) (by rfl) (fun K_ hK_ => ?_); go_big_quiet_op; refine hK_ _ ?_; clear hK_ K_)
          refine tree_nil ?_
          clear hG_
          go_wp2_with fail
          go_ret2
          refine ⟨by first | rfl | (rw [if_pos rfl, if_pos rfl]; rfl), ?_, HK6.out.trans (KeepC.of (by exact blw) (by have := HK6.out.size; omega))⟩
          exact H6.out.below (by exact blw)
        | false =>
          go_wp2_with fail
          rw [← hw6]
          go_ret2
          refine ⟨by first | rfl | (rw [if_neg (by decide), if_neg (by decide)]; rfl), ?_, HK6.out⟩
          exact H6.out
  · rw [decide_eq_false hzl] at hat1
    have HAT := Lib.hid hat1
    clear hat1
    go_enter Try.func76, Try.ntmps76
    go_wp2_with fail
    rw [← hW]
    clear hW qrw lrw
    refine HAT.out.mono ?_
    rintro r w1 ⟨rfl, hb1⟩
    have hL1 := HLW.out.below hb1
    have hx1 := (hb1.block _ (Array.getElem?_eq_some_iff.1 HXE.out).1).trans HXE.out
    have qr1 := fun o => cell_of_heap hL1.run o
    have fr1 := fun o => froz_of_heap hL1.run o
    have lr1 := (Array.getElem?_eq_some_iff.1 hL1.run).1
    have qe1 := fun o => cell_of_heap hx1 o
    have le1 := (Array.getElem?_eq_some_iff.1 hx1).1
    simp only [runC] at qr1
    have hz1 := hb1.size
    obtain ⟨hL2, hk2⟩ := hL1.set (o := 2) (v := .int .i64 (z : Nat)) (s' := ⟨(z : Nat), mk0, put0, lf0, ov0⟩) hBr rfl
    have hx2 := (hk2.kept _ _ _ _ hx1 (ownJ_no (by decide) (by decide) (by decide) _)).trans hx1
    have hk2z := hk2.size
    obtain ⟨V2, hV2⟩ : ∃ V2, V2 = (w1.setCell ⟨gr, 2, none⟩ (.int .i64 (z : Nat))).alloc (Obj.cells #[.int .i64 p1, .int .i64 p2] 130) := ⟨_, rfl⟩
    have hbV : Below (w1.setCell ⟨gr, 2, none⟩ (.int .i64 (z : Nat))).heap.size (w1.setCell ⟨gr, 2, none⟩ (.int .i64 (z : Nat))) V2 := by rw [hV2]; exact balloc (brefl _) _
    have HK2 := Lib.hid (((HK.out.trans (KeepC.of hb1 (by omega))).trans hk2).trans (KeepC.of hbV (by omega)))
    have HL2 := Lib.hid (hL2.below hbV)
    have HX2 := Lib.hid ((hbV.block _ (Array.getElem?_eq_some_iff.1 hx2).1).trans hx2)
    clear hL1 hx1 hbV hL2 hx2 hk2 hb1
    go_wp2_with fail
    rw [← hV2]
    clear hV2 qr1 fr1 lr1 qe1 le1
    refine (HPM.out V2 HK2.out HL2.out).mono ?_
    rintro r w3 ⟨rfl, h3, k3⟩
    have x3 := (k3.kept _ _ _ _ HX2.out (ownJ_no (by decide) (by decide) (by decide) _)).trans HX2.out
    have HK3 := Lib.hid (HK2.out.trans k3)
    have H3 := Lib.hid h3
    have HX3 := Lib.hid x3
    have hr3 := h3.run
    have qr3 := fun o => cell_of_heap hr3 o
    have lr3 := (Array.getElem?_eq_some_iff.1 hr3).1
    have qe3 := fun o => cell_of_heap x3 o
    have le3 := (Array.getElem?_eq_some_iff.1 x3).1
    simp only [runC] at qr3
    have hz3 := HK3.out.size
    have HPL3 := Lib.hid (fun X (hX : Below w3.heap.size w3 X) => HPL.out X (HK3.out.trans (KeepC.of hX (by omega))))
    clear h3 k3 x3 hr3
    go_wp2_with fail
    refine wp_region_tree (.step 0 (.step 1 (.step 2 (.step 3 (.step 4 (.step 5 (.step 6 .nil))))))) (by kernel_rfl) (by kernel_rfl) (by kernel_rfl) (by kernel_rfl) (by intro _ _ d_ _ _ h_; cases d_ <;> first | exact h_ | (dsimp +zetaDelta only at h_ ⊢; exact h_)) (fun w' => ∃ p : Wld w3 [], w' = p.val) (wld_start _ _) ?_
    have hG_ := @wldC w3
    (refine tree_quiet gtA (by rfl) (by rfl) (fun K_ hK_ => ?_); go_big_quiet_op; refine hK_ _ ?_; clear hK_ K_)
    (refine tree_quiet gtA (by rfl) (by rfl) (fun K_ hK_ => ?_); go_big_quiet_op; refine hK_ _ ?_; clear hK_ K_)
    (refine tree_quiet gtA (by rfl) (by rfl) (fun K_ hK_ => ?_); go_big_quiet_op; refine hK_ _ ?_; clear hK_ K_)
    (refine tree_quiet gtA (by rfl) (by rfl) (fun K_ hK_ => ?_); go_big_quiet_op; refine hK_ _ ?_; clear hK_ K_)
    (refine tree_quiet gtA (by rfl) (by rfl) (fun K_ hK_ => ?_); go_big_quiet_op; refine hK_ _ ?_; clear hK_ K_)
    (refine tree_run gtA (by rfl) (by rfl) (fun K_ hK_ => ?_); have HK_ := Lib.hid hK_; clear hK_; go_wp2_with ((go_at_call 114; (with_reducible refine (HPL3.out _ (by exact blw)).mono ?_); rintro r w4 ⟨a', c', rfl, ho, hb4⟩; have HH4 := Lib.hid (has_of_owns ho); clear ho)); refine HK_.out _ _ (wld_ofA) ?_; clear HK_)
    (refine tree_quiet gtA (by rfl) (by rfl) (fun K_ hK_ => ?_); go_big_quiet_op; refine hK_ _ ?_; clear hK_ K_)
    refine tree_nil ?_
    clear hG_
    have hb34 : Below w3.heap.size w3 w4 := blw
    have HK4 := Lib.hid (HK3.out.trans (KeepC.of (own := ownJ gl gr N bk) hb34 (by omega)))
    have H4 := Lib.hid (H3.out.below hb34)
    have x4 := (hb34.block _ le3).trans HX3.out
    have qe4 := fun o => cell_of_heap x4 o
    have le4 := (Array.getElem?_eq_some_iff.1 x4).1
    have HX4 := Lib.hid x4
    clear x4 hb34 hb4 qr3 lr3 qe3 le3
    go_wp2_with fail
    refine (HIN.out w4 HK4.out H4.out _ (by rw [if_neg (fun h => hzl h.1)]) _ _ HH4.out).mono ?_
    rintro r w5 ⟨rfl, h5, k5⟩
    have x5 := (k5.kept _ _ _ _ HX4.out (ownJ_no (by decide) (by decide) (by decide) _)).trans HX4.out
    have HK5 := Lib.hid (HK4.out.trans k5)
    have H5 := Lib.hid h5
    have hr5 := h5.run
    have qr5 := fun o => cell_of_heap hr5 o
    have fr5 := fun o => froz_of_heap hr5 o
    have lr5 := (Array.getElem?_eq_some_iff.1 hr5).1
    have qe5 := fun o => cell_of_heap x5 o
    have le5 := (Array.getElem?_eq_some_iff.1 x5).1
    simp only [runC] at qr5
    clear h5 k5 x5 hr5 qe4 le4
    have H6 := Lib.hid H5.out
    have HK6 := Lib.hid HK5.out
    obtain ⟨w6, hw6⟩ : ∃ w6, w6 = w5 := ⟨_, rfl⟩
    rw [← hw6] at H6 HK6
    cases ov5 with
    | true =>
      obtain ⟨a6, c6, hg6, _⟩ := H6.out.line
      have HLN := Lib.hid (fun X (hX : Below w6.heap.size w6 X) => glen_any B gl a6 c6 P1 X (hg6.below hX))
      have hr6 := H6.out.run
      have q66 := fun o => cell_of_heap hr6 o
      have l66 := (Array.getElem?_eq_some_iff.1 hr6).1
      simp only [runC] at q66
      clear hg6 hr6
      go_wp2_with fail
      rw [← hw6]
      clear qr5 fr5 lr5 qe5 le5 hw6
      refine wp_region_tree (.step 0 (.step 1 (.step 2 (.step 3 (.step 5 (.step 6 (.step 7 (.step 8 (.step 4 (.step 9 (.step 10 (.step 11 .nil)))))))))))) (by kernel_rfl) (by kernel_rfl) (by kernel_rfl) (by kernel_rfl) (by intro _ _ d_ _ _ h_; cases d_ <;> first | exact h_ | (dsimp +zetaDelta only at h_ ⊢; exact h_)) (fun w' => ∃ p : Wld w6 [], w' = p.val) (wld_start _ _) ?_
      have hG_ := @wldC w6
      (refine tree_quiet gtA (by rfl) (by rfl) (fun K_ hK_ => ?_); go_big_quiet_op; refine hK_ _ ?_; clear hK_ K_)
      (refine tree_quiet gtA (by rfl) (by rfl) (fun K_ hK_ => ?_); go_big_quiet_op; refine hK_ _ ?_; clear hK_ K_)
      (refine tree_quiet gtA (by rfl) (by rfl) (fun K_ hK_ => ?_); go_big_quiet_op; refine hK_ _ ?_; clear hK_ K_)
      (refine tree_quiet gtA (by rfl) (by rfl) (fun K_ hK_ => ?_); go_big_quiet_op; refine hK_ _ ?_; clear hK_ K_)
      (refine tree_quiet gtA (by rfl) (by rfl) (fun K_ hK_ => ?_); go_big_quiet_op; refine hK_ _ ?_; clear hK_ K_)
      (refine tree_quiet gtA (by rfl) (by rfl) (fun K_ hK_ => ?_); go_big_quiet_op; refine hK_ _ ?_; clear hK_ K_)
      (refine tree_quiet gtA (by rfl) (by rfl) (fun K_ hK_ => ?_); go_big_quiet_op; refine hK_ _ ?_; clear hK_ K_)
      (refine tree_quiet gtA (by rfl) (by rfl) (fun K_ hK_ => ?_); go_big_quiet_op; refine hK_ _ ?_; clear hK_ K_)
      (refine tree_run gtA (by rfl) (by rfl) (fun K_ hK_ => ?_); have HK_ := Lib.hid hK_; clear hK_; go_wp2_with ((go_at_call 117; (with_reducible refine (HLN.out _ (by exact blw)).mono ?_); rintro r w_ ⟨rfl, rfl⟩)); refine HK_.out _ _ (wld_ofA) ?_; clear HK_)
      (refine tree_run gtA (by rfl) (by rfl) (fun K_ hK_ => ?_); have HK_ := Lib.hid hK_; clear hK_; go_wp2_with ((go_at_call 117; (with_reducible refine (HLN.out _ (by exact blw)).mono ?_); rintro r w_ ⟨rfl, rfl⟩)); refine HK_.out _ _ (wld_ofA) ?_; clear HK_)
      (refine tree_quiet gtA (by rfl) (by rfl) (fun K_ hK_ => ?_); go_big_quiet_op; refine hK_ _ ?_; clear hK_ K_)
      (refine tree_quiet gtA (by rfl) (by rfl) (fun K_ hK_ => ?_); go_big_quiet_op; refine hK_ _ ?_; clear hK_ K_)
      refine tree_nil ?_
      clear hG_
      go_wp2_with fail
      go_ret2
      refine ⟨by first | rfl | (rw [if_pos rfl, if_pos rfl]; rfl), ?_, HK6.out.trans (KeepC.of (by exact blw) (by have := HK6.out.size; omega))⟩
      exact H6.out.below (by exact blw)
    | false =>
      go_wp2_with fail
      rw [← hw6]
      go_ret2
      refine ⟨by first | rfl | (rw [if_neg (by decide), if_neg (by decide)]; rfl), ?_, HK6.out⟩
      exact H6.out
end Go.Proofs.Ytbicnkopmamnpaa
end
section

/- ins: what an entry does at a place, as its walk tells it, is what the lists say. No walk; condition: flags of two bytes. -/
namespace Go.Proofs.Ytbicnkopmamnpaa
open Go.RowKit Go.Lib

theorem insG_nil (l : List (Int × Int)) (z : Int) : insG l z [] = l := by
  unfold insG
  split
  · simp
  · rfl
theorem putM_end {li : List UInt8} {l : List (Int × Int)} {mark : Int} {z : Nat} (e : Ent) {mk : Nat} (hm : MarkI l mark) (hz : z = l.length) (h0 : mark < 0 → mk = 0) : (putM li l mark z e mk).2.1 = (putM li l mark z e mk).1.length := by
  have hl := (putM_is (li := li) e hm (Nat.le_of_eq hz) h0).1
  unfold MarkI at hm
  rw [hl]
  unfold putM
  split
  · rename_i h
    subst h
    exact hz
  split <;> (dsimp only; split <;> omega)
theorem mkS_eq {li : List UInt8} {l : List (Int × Int)} {mk put lf : Int} {z : Nat} (e : Ent) (hm : MarkI l mk) (hlf : 0 ≤ lf) (h : ¬ lf < ((if mk < 0 then 0 else markI e : Nat) : Int)) :
    mkS li l ⟨(z : Nat), mk, put, lf, false⟩ e = ((putM li l mk z e (if mk < 0 then 0 else markI e)).1, ⟨((putM li l mk z e (if mk < 0 then 0 else markI e)).2.1 : Nat), (putM li l mk z e (if mk < 0 then 0 else markI e)).2.2, put + (if mk < 0 then 0 else markI e : Nat), lf - (if mk < 0 then 0 else markI e : Nat), false⟩) := by
  unfold MarkI at hm
  unfold mkS
  by_cases h1 : mk = -1
  · subst h1
    rw [if_pos rfl, if_pos (by decide)]
    unfold putM
    rw [if_pos rfl]
    simp
  · have e0 : (if mk < 0 then 0 else markI e) = markI e := if_neg (by omega)
    rw [e0] at h ⊢
    rw [if_neg (show ¬ (RS.mk (z : Nat) mk put lf false).mark = -1 from h1)]
    have hlen := idsI_length li e.2.2.2 (markI e)
    unfold insS
    dsimp only
    rw [if_neg (by rw [hlen]; rintro (h | h); cases h; omega)]
    unfold putM
    by_cases h0 : markI e = 0
    · have hnil : idsI li e.2.2.2 (markI e) = [] := List.eq_nil_of_length_eq_zero (by rw [hlen, h0])
      rw [hnil, insG_nil, h0]
      simp
    · rw [if_neg h0]
      by_cases hf : e.2.1 / 1024 % 2 = 1
      · rw [if_pos hf, if_pos hf, hlen]
        simp only [Prod.mk.injEq, RS.mk.injEq, and_true, true_and]
        refine ⟨?_, ?_⟩
        · split <;> split <;> omega
        · rw [if_pos (Int.le_refl _)]
      · rw [if_neg hf, if_neg hf, hlen]
        simp only [Prod.mk.injEq, RS.mk.injEq, and_true, true_and]
        refine ⟨?_, ?_⟩
        · split <;> split <;> omega
        · rw [if_neg (by omega)]
theorem mkS_over {li : List UInt8} {l : List (Int × Int)} {mk put lf : Int} {z : Nat} (e : Ent) (hlf : 0 ≤ lf) (h : lf < ((if mk < 0 then 0 else markI e : Nat) : Int)) (hm : -1 ≤ mk) : mkS li l ⟨(z : Nat), mk, put, lf, false⟩ e = (l, ⟨(z : Nat), mk, put, lf, true⟩) := by
  unfold mkS
  by_cases h1 : mk < 0
  · rw [if_pos h1] at h
    omega
  · rw [if_neg h1] at h
    rw [if_neg (by show ¬ mk = -1; omega)]
    unfold insS
    rw [if_pos (by rw [idsI_length]; exact .inr h)]
theorem mkS_ov {li : List UInt8} {l : List (Int × Int)} {s : RS} (e : Ent) (h : s.ov = true) : mkS li l s e = (l, s) := by
  obtain ⟨o, m, p, q, v⟩ := s
  simp only at h
  subst h
  unfold mkS
  split
  · rfl
  · unfold insS
    rw [if_pos (.inl rfl)]
theorem insS_ov {l : List (Int × Int)} {s : RS} (z : Int) (ids : List Int) (h : s.ov = true ∨ s.lf < ids.length) : insS l s z ids = (l, { s with ov := true }) := by
  unfold insS
  rw [if_pos h]
theorem insS_eq {li : List UInt8} {l : List (Int × Int)} {mk put lf : Int} {i : Nat} {wi : Prop} [Decidable wi] (e : Ent) (hm : MarkI l mk) (hi : i ≤ l.length) (hw1 : wi → i < l.length) (hw2 : ¬ wi → i = l.length) (h : ¬ lf < ((hereI e : Nat) : Int)) :
    ∃ own, insS l ⟨(i : Nat), mk, put, lf, false⟩ (if wi ∧ ¬ e.2.1 / 2048 % 2 = 1 then ((i : Nat) : Int) + 1 else ((i : Nat) : Int)) (idsI li e.2.2.1 (hereI e)) = ((putH li l mk i e (hereI e)).1, ⟨own, (putH li l mk i e (hereI e)).2.2, put + (hereI e : Nat), lf - (hereI e : Nat), false⟩) ∧ (wi → own = ((putH li l mk i e (hereI e)).2.1 : Nat)) := by
  unfold MarkI at hm
  have hlen := idsI_length li e.2.2.1 (hereI e)
  unfold insS
  dsimp only
  rw [if_neg (by rw [hlen]; rintro (h | h); cases h; omega)]
  refine ⟨if (if wi ∧ ¬ e.2.1 / 2048 % 2 = 1 then ((i : Nat) : Int) + 1 else ((i : Nat) : Int)) ≤ ((i : Nat) : Int) then ((i : Nat) : Int) + (hereI e : Nat) else ((i : Nat) : Int), ?_, ?_⟩
  · unfold putH
    by_cases h0 : hereI e = 0
    · have hnil : idsI li e.2.2.1 (hereI e) = [] := List.eq_nil_of_length_eq_zero (by rw [hlen, h0])
      rw [hnil, insG_nil, h0]
      simp
    · rw [if_neg h0]
      by_cases hf : e.2.1 / 2048 % 2 = 1
      · rw [if_neg (fun h => h.2 hf), if_pos hf, hlen]
      · rw [if_neg hf, hlen]
        by_cases hwi : wi
        · have := hw1 hwi
          rw [if_pos ⟨hwi, hf⟩]
          simp only [Prod.mk.injEq, RS.mk.injEq, and_true, true_and]
          refine ⟨?_, ?_⟩
          · congr 1
            omega
          · split <;> split <;> omega
        · have := hw2 hwi
          rw [if_neg (fun h => hwi h.1)]
          simp only [Prod.mk.injEq, RS.mk.injEq, and_true, true_and]
          refine ⟨?_, ?_⟩
          · congr 1
            omega
          · split <;> split <;> omega
  · intro hwi
    have := hw1 hwi
    by_cases hf : e.2.1 / 2048 % 2 = 1
    · have eA : (if wi ∧ ¬ e.2.1 / 2048 % 2 = 1 then ((i : Nat) : Int) + 1 else ((i : Nat) : Int)) = ((i : Nat) : Int) := if_neg (fun h => h.2 hf)
      rw [eA, if_pos (Int.le_refl _)]
      unfold putH
      by_cases h0 : hereI e = 0
      · rw [if_pos h0, h0]
        simp
      · rw [if_neg h0, if_pos hf]
        simp
    · have eA : (if wi ∧ ¬ e.2.1 / 2048 % 2 = 1 then ((i : Nat) : Int) + 1 else ((i : Nat) : Int)) = ((i : Nat) : Int) + 1 := if_pos ⟨hwi, hf⟩
      rw [eA, if_neg (show ¬ ((i : Nat) : Int) + 1 ≤ ((i : Nat) : Int) by omega)]
      unfold putH
      by_cases h0 : hereI e = 0
      · rw [if_pos h0]
      · rw [if_neg h0, if_neg hf]
/-- What an entry does, where the run ends as soon as too many would be put. -/
def actE (li : List UInt8) (left : Nat) (x : IX) (z : Nat) (e : Ent) : IX × Int × Int :=
  if (actI li left x z e).1.2.2.2 = true then ((actI li left x z e).1, ((actI li left x z e).1.1.length : Int), ((actI li left x z e).1.1.length : Int)) else actI li left x z e
theorem actE_fst (li : List UInt8) (left : Nat) (x : IX) (z : Nat) (e : Ent) : (actE li left x z e).1 = (actI li left x z e).1 := by
  unfold actE
  split <;> rfl
/-- What is remembered tells what the lists tell. -/
structure Tells (left : Nat) (x : IX) (s : RS) : Prop where
  put : s.put = (x.2.2.1 : Nat)
  lf : s.lf = (left : Int) - (x.2.2.1 : Nat)
  ov : s.ov = x.2.2.2
  mark : x.2.2.2 = false → s.mark = x.2.1
theorem actW_eq {n left : Nat} {li : List UInt8} {x : IX} {z : Nat} {e : Ent} {s : RS} (h : InI n left x z) (ht : Tells left x s) (hF : e.2.1 ≤ 65535) :
    (actW li x.1 s z e).1 = (actE li left x z e).1.1 ∧ Tells left (actE li left x z e).1 (actW li x.1 s z e).2.1 ∧ (actW li x.1 s z e).2.2 = (actE li left x z e).2 := by
  obtain ⟨l, mark, done, over⟩ := x
  obtain ⟨own0, mk0, put0, lf0, ov0⟩ := s
  obtain ⟨h1, h2, h3, h4⟩ := h
  obtain ⟨t1, t2, t3, t4⟩ := ht
  simp only at h1 h2 h3 h4 t1 t2 t3 t4
  subst t1 t2 t3
  cases ov0 with
  | true =>
    have e1 := mkS_ov (li := li) (l := l) (s := ⟨(z : Nat), mk0, (done : Nat), (left : Int) - (done : Nat), true⟩) e rfl
    have eI : actI li left (l, mark, done, true) z e = ((l, mark, done, true), (z : Int), (z : Int) + 1) := by unfold actI; rw [if_pos rfl]
    have eE : actE li left (l, mark, done, true) z e = ((l, mark, done, true), (l.length : Int), (l.length : Int)) := by unfold actE; rw [eI, if_pos rfl]
    have eM : actM li l ⟨own0, mk0, (done : Nat), (left : Int) - (done : Nat), true⟩ z e = (l, ⟨(z : Nat), mk0, (done : Nat), (left : Int) - (done : Nat), true⟩) := e1
    have eP : actP li l ⟨own0, mk0, (done : Nat), (left : Int) - (done : Nat), true⟩ z e = (l, ⟨(z : Nat), mk0, (done : Nat), (left : Int) - (done : Nat), true⟩) := by
      unfold actP
      rw [eM]
      exact insS_ov _ _ (.inl rfl)
    rw [eE]
    unfold actW
    rw [eP]
    dsimp only
    rw [if_pos rfl, if_pos rfl]
    refine ⟨rfl, ?_, rfl⟩
    split
    · exact ⟨rfl, rfl, rfl, fun h => by cases h⟩
    · exact ⟨rfl, rfl, rfl, fun h => by cases h⟩
  | false =>
    obtain rfl := t4 rfl
    have hlf : (0 : Int) ≤ (left : Int) - (done : Nat) := by omega
    obtain ⟨m0, hm0⟩ : ∃ m0, m0 = if mk0 < 0 then 0 else markI e := ⟨_, rfl⟩
    have hm0z : mk0 < 0 → m0 = 0 := fun h => by rw [hm0, if_pos h]
    by_cases ho1 : (left : Int) - (done : Nat) < (m0 : Nat)
    · -- too many at the mark
      have eI : actI li left (l, mk0, done, false) z e = ((l, mk0, done, true), (z : Int), (z : Int) + 1) := by
        unfold actI
        dsimp only
        rw [if_neg (by decide)]
        rw [← hm0, if_pos ⟨by omega, by omega⟩]
      have eE : actE li left (l, mk0, done, false) z e = ((l, mk0, done, true), (l.length : Int), (l.length : Int)) := by unfold actE; rw [eI, if_pos rfl]
      have eM : actM li l ⟨own0, mk0, (done : Nat), (left : Int) - (done : Nat), false⟩ z e = (l, ⟨(z : Nat), mk0, (done : Nat), (left : Int) - (done : Nat), true⟩) := by
        rw [hm0] at ho1
        exact mkS_over e hlf ho1 h2.1
      have eP : actP li l ⟨own0, mk0, (done : Nat), (left : Int) - (done : Nat), false⟩ z e = (l, ⟨(z : Nat), mk0, (done : Nat), (left : Int) - (done : Nat), true⟩) := by
        unfold actP
        rw [eM]
        exact insS_ov _ _ (.inl rfl)
      rw [eE]
      unfold actW
      rw [eP]
      dsimp only
      rw [if_pos rfl, if_pos rfl]
      refine ⟨rfl, ?_, rfl⟩
      split
      · exact ⟨rfl, rfl, rfl, fun h => by cases h⟩
      · exact ⟨rfl, rfl, rfl, fun h => by cases h⟩
    have hmI := putM_is (li := li) e h2 h4 hm0z
    have hmE := fun (hz : z = l.length) => putM_end (li := li) e h2 hz hm0z
    have eM : actM li l ⟨own0, mk0, (done : Nat), (left : Int) - (done : Nat), false⟩ z e = ((putM li l mk0 z e m0).1, ⟨((putM li l mk0 z e m0).2.1 : Nat), (putM li l mk0 z e m0).2.2, (done : Nat) + (m0 : Nat), (left : Int) - (done : Nat) - (m0 : Nat), false⟩) := by
      have := mkS_eq (li := li) (put := (done : Nat)) (z := z) e h2 hlf (by rw [← hm0]; exact ho1)
      rw [← hm0] at this
      exact this
    obtain ⟨Q, hQ⟩ : ∃ Q, Q = putM li l mk0 z e m0 := ⟨_, rfl⟩
    rw [← hQ] at hmI hmE eM
    obtain ⟨l1, i, mk1⟩ := Q
    simp only at hmI hmE eM
    obtain ⟨hl1, hmk1, hi1, hiw⟩ := hmI
    have hcond1 : ¬ (0 < m0 ∧ left < done + m0) := fun h => ho1 (by omega)
    by_cases ho2 : (left : Int) - (done : Nat) - (m0 : Nat) < (hereI e : Nat)
    · have eI : actI li left (l, mk0, done, false) z e = ((l1, mk1, done + m0, true), (i : Int), (i : Int) + 1) := by
        unfold actI
        dsimp only
        rw [if_neg (by decide)]
        rw [← hm0, if_neg hcond1, ← hQ]
        dsimp only
        rw [if_pos ⟨by omega, by omega⟩]
      have eE : actE li left (l, mk0, done, false) z e = ((l1, mk1, done + m0, true), (l1.length : Int), (l1.length : Int)) := by unfold actE; rw [eI, if_pos rfl]
      have eP : actP li l ⟨own0, mk0, (done : Nat), (left : Int) - (done : Nat), false⟩ z e = (l1, ⟨(i : Nat), mk1, (done : Nat) + (m0 : Nat), (left : Int) - (done : Nat) - (m0 : Nat), true⟩) := by
        unfold actP
        rw [eM]
        exact insS_ov _ _ (.inr (by rw [idsI_length]; exact ho2))
      rw [eE]
      unfold actW
      rw [eP]
      dsimp only
      rw [if_pos rfl, if_pos rfl]
      refine ⟨rfl, ?_, rfl⟩
      split
      · exact ⟨by dsimp only; omega, by dsimp only; omega, rfl, fun h => by cases h⟩
      · exact ⟨by dsimp only; omega, by dsimp only; omega, rfl, fun h => by cases h⟩
    · have hcond2 : ¬ (0 < hereI e ∧ left < done + m0 + hereI e) := fun h => ho2 (by omega)
      obtain ⟨own, hP, hown⟩ := insS_eq (li := li) (put := (done : Nat) + (m0 : Nat)) (wi := z < l.length) e hmk1 hi1 hiw (fun hz => hmE (by omega)) ho2
      have eI : actI li left (l, mk0, done, false) z e = (((putH li l1 mk1 i e (hereI e)).1, if 32768 ≤ e.2.1 ∧ i < l1.length then ((putH li l1 mk1 i e (hereI e)).2.1 : Int) else (putH li l1 mk1 i e (hereI e)).2.2, done + m0 + hereI e, false), (i : Int), (i : Int) + hereI e + 1) := by
        unfold actI
        dsimp only
        rw [if_neg (by decide)]
        rw [← hm0, if_neg hcond1, ← hQ]
        dsimp only
        rw [if_neg hcond2]
      have eE : actE li left (l, mk0, done, false) z e = (((putH li l1 mk1 i e (hereI e)).1, if 32768 ≤ e.2.1 ∧ i < l1.length then ((putH li l1 mk1 i e (hereI e)).2.1 : Int) else (putH li l1 mk1 i e (hereI e)).2.2, done + m0 + hereI e, false), (i : Int), (i : Int) + hereI e + 1) := by unfold actE; rw [eI]; dsimp only; rw [if_neg (by decide)]
      have eP : actP li l ⟨own0, mk0, (done : Nat), (left : Int) - (done : Nat), false⟩ z e = ((putH li l1 mk1 i e (hereI e)).1, ⟨own, (putH li l1 mk1 i e (hereI e)).2.2, (done : Nat) + (m0 : Nat) + (hereI e : Nat), (left : Int) - (done : Nat) - (m0 : Nat) - (hereI e : Nat), false⟩) := by
        unfold actP
        rw [eM]
        exact hP
      rw [eE]
      unfold actW
      rw [eP, eM]
      dsimp only
      rw [if_neg (show ¬ (false = true) by decide), if_neg (show ¬ (false = true) by decide)]
      refine ⟨rfl, ?_, ?_⟩
      · by_cases hm : z < l.length ∧ e.2.1 / 2 ^ 15 % 2 = 1
        · rw [if_pos hm, if_pos ⟨by omega, hiw hm.1⟩]
          exact ⟨by dsimp only; omega, by dsimp only; omega, rfl, fun _ => hown hm.1⟩
        · rw [if_neg hm, if_neg (fun h => hm ⟨by rcases Nat.lt_or_ge z l.length with g | g; exact g; have := hmE (by omega); omega, by omega⟩)]
          exact ⟨by dsimp only; omega, by dsimp only; omega, rfl, fun _ => rfl⟩
      · simp only [Prod.mk.injEq, true_and]
        omega
/-- Where the mark is, once too many would have been put. -/
theorem actW_mk {li : List UInt8} {l : List (Int × Int)} {s : RS} {z : Nat} {e : Ent} (h : s.ov = true) : (actW li l s z e).2.1.mark = s.mark ∨ (actW li l s z e).2.1.mark = (z : Nat) := by
  have e1 : actM li l s z e = (l, { s with own := (z : Nat) }) := mkS_ov e h
  have e2 : actP li l s z e = (l, { s with own := (z : Nat), ov := true }) := by
    unfold actP
    rw [e1]
    exact insS_ov _ _ (.inl h)
  unfold actW
  rw [e2]
  dsimp only
  split
  · exact .inr rfl
  · exact .inl rfl
theorem actW_bd {b : Int} {li : List UInt8} {l : List (Int × Int)} {s : RS} {z : Nat} {e : Ent} (h : Bd b { s with own := (z : Nat) }) : Bd (b + 62) (actW li l s z e).2.1 := by
  have h1 : Bd (b + 31) (actM li l s z e).2 := mkS_bd h
  have h2 : Bd (b + 31 + 31) (actP li l s z e).2 := insS_bd _ h1 (by rw [idsI_length]; exact hereI_le e)
  obtain ⟨⟨a1, a2⟩, ⟨a3, a4⟩, ⟨a5, a6⟩, ⟨a7, a8⟩⟩ := h2
  unfold actW
  dsimp only
  split
  · exact ⟨⟨a1, by dsimp only; omega⟩, ⟨a1, by dsimp only; omega⟩, ⟨a5, by dsimp only; omega⟩, ⟨a7, by dsimp only; omega⟩⟩
  · exact ⟨⟨a1, by omega⟩, ⟨a3, by omega⟩, ⟨a5, by omega⟩, ⟨a7, by omega⟩⟩
end Go.Proofs.Ytbicnkopmamnpaa
end
section

/- ins.Run: what a subtable that puts glyphs between others does to a line. Conditions: a subtable and a line in memory; no more than half a million glyphs, with those that may be put. -/
namespace Go.Proofs.Ytbicnkopmamnpaa
open Go.RowKit Go.Lib

theorem runE_over (li : List UInt8) (left : Nat) (act : IX → Nat → Ent → IX × Int × Int) (ha : ∀ x z e, (act x z e).1 = (actI li left x z e).1) (cl : IX → Nat → Nat) (en : Nat → Nat → Ent) (fin : IX → Nat → Bool) (fu : Nat) (x : IX) (now z re st : Nat) (h : x.2.2.2 = true) : (runD cl en fin act fu x now z re st).1 = x :=
  runD_keeps (fun y => y = x) (fun y z e hy => by subst hy; exact (ha y z e).trans (actI_over li left y z e h)) _ _ _ _ _ _ rfl
/-- Where the run ends as soon as too many would be put, it comes to the same. -/
theorem runE_eq (li : List UInt8) (left : Nat) (cl : IX → Nat → Nat) (en : Nat → Nat → Ent) (fin : IX → Nat → Bool) : ∀ (fu : Nat) (x : IX) (now z re st : Nat),
    (runD cl en fin (actE li left) fu x now z re st).1 = (runD cl en fin (actI li left) fu x now z re st).1 ∧ ((runD cl en fin (actI li left) fu x now z re st).1.2.2.2 = false → runD cl en fin (actE li left) fu x now z re st = runD cl en fin (actI li left) fu x now z re st) := by
  intro fu
  induction fu with
  | zero => intro x now z re st; exact ⟨rfl, fun _ => rfl⟩
  | succ fu ih =>
    intro x now z re st
    by_cases ho : (actI li left x z (en now (cl x z))).1.2.2.2 = true
    · have e1 : (runD cl en fin (actE li left) (fu + 1) x now z re st).1 = (actI li left x z (en now (cl x z))).1 := by
        unfold runD
        dsimp only
        split
        · split
          · exact actE_fst _ _ _ _ _
          · rw [actE_fst]
            exact runE_over li left _ (actE_fst li left) _ _ _ _ _ _ _ _ _ ho
        · split
          · exact actE_fst _ _ _ _ _
          · rw [actE_fst]
            exact runE_over li left _ (actE_fst li left) _ _ _ _ _ _ _ _ _ ho
      have e2 : (runD cl en fin (actI li left) (fu + 1) x now z re st).1 = (actI li left x z (en now (cl x z))).1 := by
        unfold runD
        dsimp only
        split
        · split
          · rfl
          · exact runE_over li left _ (fun _ _ _ => rfl) _ _ _ _ _ _ _ _ _ ho
        · split
          · rfl
          · exact runE_over li left _ (fun _ _ _ => rfl) _ _ _ _ _ _ _ _ _ ho
      refine ⟨e1.trans e2.symm, fun h => ?_⟩
      rw [e2, ho] at h
      cases h
    · have ea : actE li left x z (en now (cl x z)) = actI li left x z (en now (cl x z)) := by
        unfold actE
        rw [if_neg ho]
      unfold runD
      dsimp only
      rw [ea]
      split
      · split
        · exact ⟨rfl, fun _ => rfl⟩
        · exact ih _ _ _ _ _
      · split
        · exact ⟨rfl, fun _ => rfl⟩
        · exact ih _ _ _ _ _
theorem actE_in {n left : Nat} (li : List UInt8) (x : IX) (z : Nat) (e : Ent) (h : InI n left x z) : InI n left (actE li left x z e).1 (max (actE li left x z e).2.1 0).toNat ∧ (z < x.1.length → InI n left (actE li left x z e).1 (max (actE li left x z e).2.2 0).toNat) := by
  have hi := actI_in li x z e h
  unfold actE
  split
  · refine ⟨⟨hi.1.len, hi.1.mark, hi.1.most, ?_⟩, fun _ => ⟨hi.1.len, hi.1.mark, hi.1.most, ?_⟩⟩ <;> · show (max ((actI li left x z e).1.1.length : Int) 0).toNat ≤ (actI li left x z e).1.1.length; omega
  · exact hi
structure ISee (bk : Option Nat) (L Bt gt : Nat) (bs : List UInt8) (rs : List RP) (S : Nat) (B gl gr N n left : Nat) (x : IX) (z : Nat) (w : World) : Prop where
  lr : ∃ s, LRun bk B gt gl gr N x.1 s w ∧ Tells left x s ∧ -1 ≤ s.mark ∧ s.mark ≤ 600000
  sub : IIs L Bt gt bs rs S w
  inn : InI n left x z
  ids : IdsOk x.1
theorem ISee.below {bk : Option Nat} {L Bt gt : Nat} {bs : List UInt8} {rs : List RP} {S B gl gr N n left : Nat} {x : IX} {z : Nat} {w w' : World} (h : ISee bk L Bt gt bs rs S B gl gr N n left x z w) (hb : Below w.heap.size w w') : ISee bk L Bt gt bs rs S B gl gr N n left x z w' :=
  ⟨by obtain ⟨s, h1, h2⟩ := h.lr; exact ⟨s, h1.below hb, h2⟩, h.sub.below hb, h.inn, h.ids⟩
theorem IOk.entry {bs : List UInt8} {glyphs : Nat} {rs : List RP} {S : Nat} (h : IOk bs glyphs rs S) {s c : Nat} (hs : s < S) (hc : c < num bs 0 4) : PutsI (bs.length - num bs 16 4) (enM bs 2 s c) := h.puts _ (ent_in hs hc)
theorem ISee.act {bk : Option Nat} (L Bt gt : Nat) (bs : List UInt8) (rs : List RP) (S B gl gr N n left : Nat) (x : IX) (z : Nat) (e : Ent) (w : World) (h : ISee bk L Bt gt bs rs S B gl gr N n left x z w) (hat : num bs 16 4 ≤ bs.length) (hBl : B ≤ gl) (hBr : B ≤ gr) (hB : B ≤ w.heap.size) (hN : N ≤ w.heap.size) (hL : L ≤ B) (hnl : n + left ≤ 500000) (hF : e.2.1 ≤ 65535) (hA : e.2.2.1 ≤ 65535) (hBv : e.2.2.2 ≤ 65535) (hin : PutsI (bs.length - num bs 16 4) e) :
    Calls Try.prog 76 #[.pointer (some ⟨gr, 0, none⟩), .int .i64 (z : Nat), entV4 e] w fun r w' => r = .returned (.tuple #[.int .i64 (actE (bs.drop (num bs 16 4)) left x z e).2.1, .int .i64 (actE (bs.drop (num bs 16 4)) left x z e).2.2]) ∧ (ISee bk L Bt gt bs rs S B gl gr N n left (actE (bs.drop (num bs 16 4)) left x z e).1 (max (actE (bs.drop (num bs 16 4)) left x z e).2.1 0).toNat w' ∧ (z < x.1.length → ISee bk L Bt gt bs rs S B gl gr N n left (actE (bs.drop (num bs 16 4)) left x z e).1 (max (actE (bs.drop (num bs 16 4)) left x z e).2.2 0).toNat w')) ∧ KeepC B (ownJ gl gr N bk) w w' := by
  obtain ⟨s, hlr, ht, hm1, hm2⟩ := h.lr
  have hlen := h.inn.len
  have hmost := h.inn.most
  have hz := h.inn.at_
  have hput := ht.put
  have hlf := ht.lf
  refine (iact_any bk L Bt B gt gl gr N bs rs S x.1 s z e w hlr h.sub hat hBl hBr hB hN hL (by omega) hF hA hBv hin (by omega) ⟨⟨hm1, by omega⟩, ⟨by omega, by omega⟩, ⟨by omega, by omega⟩⟩).mono ?_
  rintro r w' ⟨rfl, h1, h2⟩
  obtain ⟨e1, e2, e3⟩ := actW_eq (li := bs.drop (num bs 16 4)) (e := e) h.inn ht hF
  rw [e1] at h1
  have hmk : -1 ≤ (actW (bs.drop (num bs 16 4)) x.1 s z e).2.1.mark ∧ (actW (bs.drop (num bs 16 4)) x.1 s z e).2.1.mark ≤ 600000 := by
    cases hov : x.2.2.2 with
    | true =>
      rcases actW_mk (li := bs.drop (num bs 16 4)) (l := x.1) (z := z) (e := e) (s := s) (ht.ov.trans hov) with h | h
      · rw [h]
        exact ⟨hm1, hm2⟩
      · rw [h]
        omega
    | false =>
      have hmx := ht.mark hov
      have hmk2 := h.inn.mark
      unfold MarkI at hmk2
      have := actW_bd (b := 500000) (li := bs.drop (num bs 16 4)) (l := x.1) (s := s) (z := z) (e := e) ⟨⟨by dsimp only; omega, by dsimp only; omega⟩, ⟨hm1, by dsimp only; omega⟩, ⟨by dsimp only; omega, by dsimp only; omega⟩, ⟨by dsimp only; omega, by dsimp only; omega⟩⟩
      exact ⟨this.2.1.1, by have := this.2.1.2; omega⟩
  have hlr' : ∃ s', LRun bk B gt gl gr N (actE (bs.drop (num bs 16 4)) left x z e).1.1 s' w' ∧ Tells left (actE (bs.drop (num bs 16 4)) left x z e).1 s' ∧ -1 ≤ s'.mark ∧ s'.mark ≤ 600000 := ⟨_, h1, e2, hmk⟩
  have hsub := h.sub.keepJ h2 hL
  have hids : IdsOk (actE (bs.drop (num bs 16 4)) left x z e).1.1 := by rw [actE_fst]; exact actI_ids _ _ _ _ _ h.ids
  have hinn := actE_in (bs.drop (num bs 16 4)) x z e h.inn
  exact ⟨by rw [← e3], ⟨⟨hlr', hsub, hinn.1, hids⟩, fun hz => ⟨hlr', hsub, hinn.2 hz, hids⟩⟩, h2⟩
/-- What Run of a subtable of layer 18 may change of what was there. -/
def ownQ (gl : Nat) (bk : Option Nat) (k t : Nat) : Prop := (t = 144 ∧ k = gl) ∨ (t = 130 ∧ bk = some k)
theorem KeepC.oldJ {gl gr N B : Nat} {bk : Option Nat} {w w' : World} (h : KeepC B (ownJ gl gr N bk) w w') (hN : w.heap.size ≤ N) (hr : w.heap.size ≤ gr) : KeepC B (ownQ gl bk) w w' :=
  ⟨h.below, h.size, fun k cs t fz hk ho => h.kept k cs t fz hk fun hs => by
    have := (Array.getElem?_eq_some_iff.1 hk).1
    rcases hs with hs | ⟨h1, h2 | h2⟩ | hs
    · exact ho (.inl hs)
    · exact ho (.inr ⟨h1, h2⟩)
    · omega
    · have := hs.2
      omega⟩
theorem enter_iact (args : Array Value) (w : World) : (callFunc 76 args).run Try.prog w = .ok (.enter 76 args) w := by kernel_rfl
set_option maxRecDepth 100000 in
set_option maxHeartbeats 3200000 in
theorem irun_any (L Bt gt : Nat) (bs : List UInt8) (glyphs : Nat) (rs : List RP) (S : Nat) (B gl : Nat) (a : Option Addr) (c : Nat) (l : List (Int × Int)) (zl : Int) (left : Nat) (w : World)
    (hT : IIs L Bt gt bs rs S w) (hok : IOk bs glyphs rs S) (hg1 : 1 ≤ glyphs) (hg2 : glyphs ≤ 65535) (hL : L ≤ B) (hBl : B ≤ gl)
    (hG : GIs B gl a c l w) (hB : B ≤ w.heap.size) (hids : IdsOk l) (hleft : left = zl.toNat) (hl : l.length + left ≤ 500000) :
    Calls Try.prog 22 #[.pointer (some ⟨gt, 0, none⟩), .pointer (some ⟨gl, 0, none⟩), .int .i64 zl] w fun e w' => e = .returned (.tuple #[.int .i64 ((insD bs rs (bs.drop (num bs 16 4)) left l).1.2.2.1 : Nat), .int .i64 (if (insD bs rs (bs.drop (num bs 16 4)) left l).1.2.2.2 = true then 4 else ((insD bs rs (bs.drop (num bs 16 4)) left l).2.2 : Nat))]) ∧ (∃ a' c', GIs B gl a' c' (insD bs rs (bs.drop (num bs 16 4)) left l).1.1 w' ∧ RowOf (a.map (·.block)) w.heap.size a') ∧ KeepC B (ownQ gl (a.map (·.block))) w w' := by
  have hAC := allocC
  have hAF := allocF
  have hmx : max zl 0 = (left : Int) := by omega
  obtain ⟨W, hW⟩ : ∃ W, W = w.alloc (Obj.cells (runC gt gl ⟨0, -1, 0, (left : Nat), false⟩) 147) := ⟨_, rfl⟩
  have hbW : Below w.heap.size w W := by rw [hW]; exact balloc (brefl w) _
  have hrun : W.heap[w.heap.size]? = some (.cells (runC gt gl ⟨0, -1, 0, (left : Nat), false⟩) 147 (0, 0)) := by rw [hW]; exact (heap_push _ _ _).trans (if_pos rfl)
  obtain ⟨g, ab, cb, e1, e2, _, _, _⟩ := hT.is
  have ht := (hbW.block gt (Array.getElem?_eq_some_iff.1 e1).1).trans e1
  have hS : S ≤ 65536 := hok.mok.least.least 65536 ⟨by decide, needS_le bs 2 _⟩
  have hfit := hok.mok.lk.fit hg2 (.inl rfl)
  have hsee : ISee (a.map (·.block)) L Bt gt bs rs S B gl w.heap.size w.heap.size l.length left (l, -1, 0, false) 0 W :=
    ⟨⟨_, ⟨⟨a, c, hG.below hbW, fun k hk => .inl hk⟩, hrun⟩, ⟨rfl, by simp, rfl, fun _ => rfl⟩, by show (-1 : Int) ≤ -1; decide, by show (-1 : Int) ≤ 600000; decide⟩, hT.below hbW, ⟨rfl, ⟨by show (-1 : Int) ≤ -1; decide, by show (-1 : Int) < _; omega⟩, Nat.zero_le _, Nat.zero_le _⟩, hids⟩
  have hdr := drunG_any (X := IX) (fun x => x.1) (ISee (a.map (·.block)) L Bt gt bs rs S B gl w.heap.size w.heap.size l.length left) (actE (bs.drop (num bs 16 4)) left) (ownJ gl w.heap.size w.heap.size (a.map (·.block))) Bt g bs 2 glyphs rs S B B gl 76 (.pointer (some ⟨w.heap.size, 0, none⟩)) (l, -1, 0, false) W enter_iact (e2.below hbW) hS hok.mok hg1 hfit (notM_J _ _ _ _) (Nat.le_trans hB hbW.size) hsee (fun x z V V' h hb => h.below hb) (fun x z V h => by have := h.inn.len; have := h.inn.most; have := h.inn.at_; omega) (fun x z V h => by obtain ⟨s, h1, _⟩ := h.lr; obtain ⟨a', c', hg, _⟩ := h1.line; exact ⟨a', c', hg⟩) (fun x z V h => h.ids) l.length rfl (by omega)
    (fun x V z e h hk hsc _ hF hA hBv => by
      obtain ⟨s, c, hs, hc, he⟩ := hsc
      refine ISee.act L Bt gt bs rs S B gl w.heap.size w.heap.size l.length left x z e V h hok.at_ hBl hB ?_ ?_ hL (by omega) hF hA hBv ?_
      · have := hk.size
        have := hbW.size
        omega
      · have := hk.size
        have := hbW.size
        omega
      · rw [he]
        exact hok.entry hs hc)
  obtain ⟨hE1, hE2⟩ := runE_eq (bs.drop (num bs 16 4)) left (fun x z => clD bs rs x.1 z) (enM bs 2) (fun x z => decide (x.1.length ≤ z)) (2 * l.length + 128) (l, -1, 0, false) 0 0 0 1
  obtain ⟨E, hE⟩ : ∃ E, E = runD (fun x z => clD bs rs x.1 z) (enM bs 2) (fun x z => decide (x.1.length ≤ z)) (actE (bs.drop (num bs 16 4)) left) (2 * l.length + 128) (l, -1, 0, false) 0 0 0 1 := ⟨_, rfl⟩
  obtain ⟨D, hD⟩ : ∃ D, D = insD bs rs (bs.drop (num bs 16 4)) left l := ⟨_, rfl⟩
  change E = _ at hE
  rw [← hE] at hdr hE1 hE2
  change _ = (insD bs rs (bs.drop (num bs 16 4)) left l).1 at hE1
  change (insD bs rs (bs.drop (num bs 16 4)) left l).1.2.2.2 = false → E = insD bs rs (bs.drop (num bs 16 4)) left l at hE2
  rw [← hD] at hE1 hE2
  rw [← hD]
  have HDR := Lib.hid hdr
  have HE1 := Lib.hid hE1
  have HE2 := Lib.hid hE2
  have HKW := Lib.hid (KeepC.of (B := B) (own := ownJ gl w.heap.size w.heap.size (a.map (·.block))) hbW hB)
  have qt := fun o => cell_of_heap ht o
  have lt := (Array.getElem?_eq_some_iff.1 ht).1
  have qt0 := fun o => cell_of_heap e1 o
  have lt0 := (Array.getElem?_eq_some_iff.1 e1).1
  clear hdr hE1 hE2 hE hD hsee hS hfit hok hG hids hT e1 e2 ht hrun hbW
  obtain ⟨ans, hans⟩ : ∃ ans : Int, ans = if D.1.2.2.2 = true then (4 : Int) else ((D.2.2 : Nat) : Int) := ⟨_, rfl⟩
  rw [← hans]
  have HANS := Lib.hid hans
  clear hans
  simp only [runC] at hW
  rcases Int.lt_or_le zl 0 with h0 | h0
  · obtain rfl : left = 0 := by omega
    clear hleft
    have e0 : ((0 : Nat) : Int) = 0 := rfl
    rw [e0] at hW hmx
    clear e0
    go_enter Try.func22, Try.ntmps22
    go_wp2_with fail
    all_goals (try (exfalso; omega))
    rw [← hW]
    clear hW qt0 lt0
    refine HDR.out.mono ?_
    rintro e w1 ⟨rfl, ⟨z', hs⟩, hk⟩
    obtain ⟨s1, hlr, htl, _⟩ := hs.lr
    obtain ⟨a', c', hg', hr'⟩ := hlr.line
    have HG := Lib.hid (show ∃ a' c', GIs B gl a' c' E.1.1 w1 ∧ RowOf (a.map (·.block)) w.heap.size a' from ⟨a', c', hg', hr'⟩)
    have HKK := Lib.hid ((HKW.out.trans hk).oldJ (Nat.le_refl _) (Nat.le_refl _))
    have hr1 := hlr.run
    obtain ⟨o1, m1, p1, f1, v1⟩ := s1
    have hp1 := htl.put
    have hv1 := htl.ov
    simp only at hp1 hv1
    subst hp1 hv1
    have q1 := fun o => cell_of_heap hr1 o
    have l1 := (Array.getElem?_eq_some_iff.1 hr1).1
    simp only [runC] at q1
    clear hs hlr htl hg' hr' hk hr1
    cases hov : E.1.2.2.2 with
    | true =>
      rw [hov] at q1
      have HR := Lib.hid (show ((D.1.2.2.1 : Nat) : Int) = (E.1.2.2.1 : Nat) ∧ ans = 4 from by rw [HANS.out, ← HE1.out, hov]; exact ⟨rfl, if_pos rfl⟩)
      have HL := Lib.hid (show D.1.1 = E.1.1 by rw [HE1.out])
      clear hov
      go_wp2_with fail
      go_ret2
      rw [HR.out.1, HR.out.2, HL.out]
      exact ⟨rfl, HG.out, HKK.out⟩
    | false =>
      rw [hov] at q1
      have hED := HE2.out (by rw [← HE1.out]; exact hov)
      have HR := Lib.hid (show ((D.1.2.2.1 : Nat) : Int) = (E.1.2.2.1 : Nat) ∧ ans = (E.2.2 : Nat) from by rw [HANS.out, ← hED, hov]; exact ⟨rfl, if_neg (by decide)⟩)
      have HL := Lib.hid (show D.1.1 = E.1.1 by rw [HE1.out])
      clear hov hED
      go_wp2_with fail
      go_ret2
      rw [HR.out.1, HR.out.2, HL.out]
      exact ⟨rfl, HG.out, HKK.out⟩
  · obtain rfl : zl = left := by omega
    clear hleft
    go_enter Try.func22, Try.ntmps22
    go_wp2_with fail
    rw [← hW]
    clear hW qt0 lt0
    refine HDR.out.mono ?_
    rintro e w1 ⟨rfl, ⟨z', hs⟩, hk⟩
    obtain ⟨s1, hlr, htl, _⟩ := hs.lr
    obtain ⟨a', c', hg', hr'⟩ := hlr.line
    have HG := Lib.hid (show ∃ a' c', GIs B gl a' c' E.1.1 w1 ∧ RowOf (a.map (·.block)) w.heap.size a' from ⟨a', c', hg', hr'⟩)
    have HKK := Lib.hid ((HKW.out.trans hk).oldJ (Nat.le_refl _) (Nat.le_refl _))
    have hr1 := hlr.run
    obtain ⟨o1, m1, p1, f1, v1⟩ := s1
    have hp1 := htl.put
    have hv1 := htl.ov
    simp only at hp1 hv1
    subst hp1 hv1
    have q1 := fun o => cell_of_heap hr1 o
    have l1 := (Array.getElem?_eq_some_iff.1 hr1).1
    simp only [runC] at q1
    clear hs hlr htl hg' hr' hk hr1
    cases hov : E.1.2.2.2 with
    | true =>
      rw [hov] at q1
      have HR := Lib.hid (show ((D.1.2.2.1 : Nat) : Int) = (E.1.2.2.1 : Nat) ∧ ans = 4 from by rw [HANS.out, ← HE1.out, hov]; exact ⟨rfl, if_pos rfl⟩)
      have HL := Lib.hid (show D.1.1 = E.1.1 by rw [HE1.out])
      clear hov
      go_wp2_with fail
      go_ret2
      rw [HR.out.1, HR.out.2, HL.out]
      exact ⟨rfl, HG.out, HKK.out⟩
    | false =>
      rw [hov] at q1
      have hED := HE2.out (by rw [← HE1.out]; exact hov)
      have HR := Lib.hid (show ((D.1.2.2.1 : Nat) : Int) = (E.1.2.2.1 : Nat) ∧ ans = (E.2.2 : Nat) from by rw [HANS.out, ← hED, hov]; exact ⟨rfl, if_neg (by decide)⟩)
      have HL := Lib.hid (show D.1.1 = E.1.1 by rw [HE1.out])
      clear hov hED
      go_wp2_with fail
      go_ret2
      rw [HR.out.1, HR.out.2, HL.out]
      exact ⟨rfl, HG.out, HKK.out⟩
end Go.Proofs.Ytbicnkopmamnpaa
end
