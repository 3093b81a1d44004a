/- Joined from: JDo JLine JIdleP. -/
import Derived.Test.YthehcbbdkiomnaaJ01
import Derived.Test.YthehcbbdkiomnaaJ21
import Derived.Test.YthehcbbdkiomnaaJ18
section

/- liga.Run: what a subtable that makes one glyph of several does to a line. Conditions: a subtable and a line in memory; sizes. -/
namespace Go.Proofs.Ythehcbbdkiomnaa
open Go.RowKit Go.Lib

/-- Rows of numbers of its own, and where they are told. -/
def ownN (N k t : Nat) : Prop := (t = 3 ∨ t = 23) ∧ N ≤ k
theorem ownN_no {N t : Nat} (h2 : t ≠ 3) (h3 : t ≠ 23) : ∀ k, ¬ ownN N k t := fun _ h => by
  rcases h with ⟨h | h, _⟩
  · exact h2 h
  · exact h3 h
theorem notM_N (N : Nat) : notM (ownN N) := ⟨ownN_no (by decide) (by decide), ownN_no (by decide) (by decide), ownN_no (by decide) (by decide), ownN_no (by decide) (by decide), ownN_no (by decide) (by decide), ownN_no (by decide) (by decide), ownN_no (by decide) (by decide)⟩
theorem KeepC.ofIN {B N : Nat} {w w' : World} (h : KeepC B (ownI N) w w') : KeepC B (ownN N) w w' := ⟨h.below, h.size, fun k cs t fz hk ho => h.kept k cs t fz hk fun hs => ho ⟨.inl hs.1, hs.2⟩⟩
/-- What Run of a subtable of layer 17 may change: the line's row, and rows of numbers of its own, and where they are told. -/
def ownL (bk : Option Nat) (N k t : Nat) : Prop := ownS bk k t ∨ ownN N k t
theorem ownL_no {bk : Option Nat} {N t : Nat} (h1 : t ≠ 100) (h2 : t ≠ 3) (h3 : t ≠ 23) : ∀ k, ¬ ownL bk N k t := fun k h => by
  rcases h with ⟨h, _⟩ | h
  · exact h1 h
  · exact ownN_no h2 h3 k h
theorem notM_L (bk : Option Nat) (N : Nat) : notM (ownL bk N) := ⟨ownL_no (by decide) (by decide) (by decide), ownL_no (by decide) (by decide) (by decide), ownL_no (by decide) (by decide) (by decide), ownL_no (by decide) (by decide) (by decide), ownL_no (by decide) (by decide) (by decide), ownL_no (by decide) (by decide) (by decide), ownL_no (by decide) (by decide) (by decide)⟩
theorem KeepC.ofPL {bk : Option Nat} {B N : Nat} {w w' : World} (h : KeepC B (ownP bk N) w w') : KeepC B (ownL bk N) w w' := ⟨h.below, h.size, fun k cs t fz hk ho => h.kept k cs t fz hk fun hs => ho (hs.imp id fun h => ⟨.inl h.1, h.2⟩)⟩
theorem KeepC.ofN {bk : Option Nat} {B N : Nat} {w w' : World} (h : KeepC B (ownN N) w w') : KeepC B (ownL bk N) w w' := ⟨h.below, h.size, fun k cs t fz hk ho => h.kept k cs t fz hk fun hs => ho (.inr hs)⟩
theorem RStep.keepI {B N n c : Nat} {a a' : Option Addr} {xs : List Value} {W w' : World} (h : RStep N a a' W w') (hr : W.ownsRow N 3 1 (.slice a n c) n xs) (hB : B ≤ N) : KeepC B (ownI N) W w' := by
  refine ⟨h.below.mono hB, h.below.size, fun k cs t fz hk ho => ?_⟩
  refine h.keep k (Array.getElem?_eq_some_iff.1 hk).1 fun e => ?_
  rcases hr.2 with ⟨hv, _⟩ | ⟨g, cap, cur, hv, hbg, hh, _⟩
  · injection hv with hv
    rw [hv] at e
    cases e
  · injection hv with hv
    rw [hv] at e
    cases e
    rw [hh] at hk
    injection hk with hk
    injection hk with _ h2 _
    subst h2
    exact ho ⟨rfl, hbg⟩
/-- What the function within Run sees, but for the places that are kept. -/
structure JFr (bk : Option Nat) (L Bt gt : Nat) (bs : List UInt8) (rs : List RP) (S : Nat) (B gl g2 g3 : Nat) (l : List (Int × Int)) (w : World) : Prop where
  line : ∃ a c, GIs B gl a c l w ∧ a.map (·.block) = bk
  sub : JIs L Bt gt bs rs S w
  at2 : w.heap[g2]? = some (.cells #[.pointer (some ⟨gt, 0, none⟩)] 25 (0, 0))
  at3 : w.heap[g3]? = some (.cells #[.pointer (some ⟨gl, 0, none⟩)] 38 (0, 0))
  few : l.length ≤ 1000000
  ids : IdsOk l
theorem JFr.below {bk : Option Nat} {L Bt gt : Nat} {bs : List UInt8} {rs : List RP} {S B gl g2 g3 : Nat} {l : List (Int × Int)} {w w' : World} (h : JFr bk L Bt gt bs rs S B gl g2 g3 l w) (hb : Below w.heap.size w w') : JFr bk L Bt gt bs rs S B gl g2 g3 l w' :=
  ⟨by obtain ⟨a, c, hg, hbk⟩ := h.line; exact ⟨a, c, hg.below hb, hbk⟩, h.sub.below hb, (hb.block _ (Array.getElem?_eq_some_iff.1 h.at2).1).trans h.at2, (hb.block _ (Array.getElem?_eq_some_iff.1 h.at3).1).trans h.at3, h.few, h.ids⟩
theorem JFr.keep {bk : Option Nat} {L Bt gt : Nat} {bs : List UInt8} {rs : List RP} {S B gl g2 g3 N : Nat} {l : List (Int × Int)} {w w' : World} (h : JFr bk L Bt gt bs rs S B gl g2 g3 l w) (hk : KeepC B (ownN N) w w') (hL : L ≤ B) : JFr bk L Bt gt bs rs S B gl g2 g3 l w' :=
  ⟨by obtain ⟨a, c, hg, hbk⟩ := h.line; exact ⟨a, c, hg.keepI hk (ownN_no (by decide) (by decide)) (ownN_no (by decide) (by decide)), hbk⟩, h.sub.keep hk hL (notM_N _) (ownN_no (by decide) (by decide)) (ownN_no (by decide) (by decide)), (hk.kept _ _ _ _ h.at2 (ownN_no (by decide) (by decide) _)).trans h.at2, (hk.kept _ _ _ _ h.at3 (ownN_no (by decide) (by decide) _)).trans h.at3, h.few, h.ids⟩
structure JIn (bk : Option Nat) (L Bt gt : Nat) (bs : List UInt8) (rs : List RP) (S : Nat) (B gl g2 g3 g5 N : Nat) (x : LX) (w : World) : Prop where
  fr : JFr bk L Bt gt bs rs S B gl g2 g3 x.1 w
  at5 : ∃ a c, w.heap[g5]? = some (.cells #[.slice a x.2.length c] 23 (0, 0)) ∧ w.ownsRow N 3 1 (.slice a x.2.length c) x.2.length (iv x.2)
  kept : KeptL x.1.length x.2
  apart : Apart x.2
theorem JIn.below {bk : Option Nat} {L Bt gt : Nat} {bs : List UInt8} {rs : List RP} {S B gl g2 g3 g5 N : Nat} {x : LX} {w w' : World} (h : JIn bk L Bt gt bs rs S B gl g2 g3 g5 N x w) (hb : Below w.heap.size w w') : JIn bk L Bt gt bs rs S B gl g2 g3 g5 N x w' :=
  ⟨h.fr.below hb, by obtain ⟨a, c, h1, h2⟩ := h.at5; exact ⟨a, c, (hb.block _ (Array.getElem?_eq_some_iff.1 h1).1).trans h1, owns_below h2 hb (Nat.le_refl _)⟩, h.kept, h.apart⟩
/-- Other places are kept. -/
theorem JIn.put {bk : Option Nat} {L Bt gt : Nat} {bs : List UInt8} {rs : List RP} {S B gl g2 g3 g5 N : Nat} {l : List (Int × Int)} {ps : List Int} {a : Option Addr} {c : Nat} {v : Value} {W : World} (h : JFr bk L Bt gt bs rs S B gl g2 g3 l W) (h5 : W.heap[g5]? = some (.cells #[v] 23 (0, 0))) (hr : W.ownsRow N 3 1 (.slice a ps.length c) ps.length (iv ps)) (hk : KeptL l.length ps) (ha : Apart ps) (hN : N ≤ g5) (hB : B ≤ N) (hL : L ≤ B) :
    JIn bk L Bt gt bs rs S B gl g2 g3 g5 N (l, ps) (W.setCell ⟨g5, 0, none⟩ (.slice a ps.length c)) ∧ KeepC B (ownN N) W (W.setCell ⟨g5, 0, none⟩ (.slice a ps.length c)) := by
  have hkk : KeepC B (ownN N) W (W.setCell ⟨g5, 0, none⟩ (.slice a ps.length c)) := (KeepC.refl B (ownN N) W).set (by omega) h5 ⟨.inr rfl, hN⟩ _
  exact ⟨⟨h.keep hkk hL, ⟨a, c, set_heap_at _ h5, set_owns _ hr (own_neE hr h5 (by decide))⟩, hk, ha⟩, hkk⟩
set_option maxRecDepth 100000 in
set_option maxHeartbeats 3200000 in
theorem jdo_any {bk : Option Nat} (L Bt gt : Nat) (bs : List UInt8) (rs : List RP) (S glyphs : Nat) (B gl g2 g3 g5 N : Nat) (x : LX) (z : Nat) (e : Ent) (w : World) (h : JIn bk L Bt gt bs rs S B gl g2 g3 g5 N x w) (hok : JOk bs glyphs rs S) (hL : L ≤ B) (hBl : B ≤ gl) (hBN : B ≤ N) (hN5 : N ≤ g5) (hNw : N ≤ w.heap.size) (hF : e.2.1 ≤ 65535) (hA : e.2.1 / 8192 % 2 = 1 → GoodA (bs.drop (num bs 16 4)) e.2.2.1) :
    Calls Try.prog 43 #[.int .i64 (z : Nat), entV4 e, .pointer (some ⟨g3, 0, none⟩), .pointer (some ⟨g5, 0, none⟩), .pointer (some ⟨g2, 0, none⟩)] w fun r w' => r = .returned (.tuple #[]) ∧ JIn bk L Bt gt bs rs S B gl g2 g3 g5 N (actL (bs.drop (num bs 16 4)) (bs.drop (num bs 20 4)) (bs.drop (num bs 24 4)) x z e).1 w' ∧ KeepC B (ownL bk N) w w' := by
  have hAC := allocC
  have hAF := allocF
  obtain ⟨e0, F, A, Bw⟩ := e
  obtain ⟨l, ps⟩ := x
  simp only [entV4] at hF hA ⊢
  obtain ⟨W, hW⟩ : ∃ W, W = w.alloc (.cells #[.int .i64 (e0 : Nat), .int .i64 (F : Nat), .int .i64 (A : Nat), .int .i64 (Bw : Nat)] 59) := ⟨_, rfl⟩
  have hbW : Below w.heap.size w W := by rw [hW]; exact balloc (brefl w) _
  have xe : W.heap[w.heap.size]? = some (.cells #[.int .i64 (e0 : Nat), .int .i64 (F : Nat), .int .i64 (A : Nat), .int .i64 (Bw : Nat)] 59 (0, 0)) := by rw [hW]; exact (heap_push _ _ _).trans (if_pos rfl)
  have hi := h.below hbW
  have HK := Lib.hid (KeepC.of (B := B) (own := ownL bk N) hbW (by omega))
  obtain ⟨a, c, hg, hbk⟩ := hi.fr.line
  have hat := gat_any B gl a c l W hg (z : Nat)
  have HI := Lib.hid hi
  have HXE := Lib.hid xe
  have HOK := Lib.hid hok
  have HA := Lib.hid hA
  have hzW := hbW.size
  have x2 := hi.fr.at2
  have x3 := hi.fr.at3
  have q3w := cell_of_heap h.fr.at3 0
  simp only [List.getElem?_toArray, List.getElem?_cons_zero] at q3w
  have l3w := cell_lt q3w
  simp only at l3w
  have HPUSH := Lib.hid (fun (V : World) (a : Option Addr) (n c : Nat) (ps : List Int) (z : Int) (hr : V.ownsRow N 3 1 (.slice a n c) n (iv ps)) (hl : ps.length = n) (hn : n ≤ 64) (hV : N ≤ V.heap.size) => push_any N a n c ps z V hr hl hn hV)
  have HPERF := Lib.hid (fun (V : World) (l : List (Int × Int)) (ps : List Int) (ak : Option Addr) (ck : Nat) (hi : JFr bk L Bt gt bs rs S B gl g2 g3 l V) (hr : V.ownsRow N 3 1 (.slice ak ps.length ck) ps.length (iv ps)) (hV : N ≤ V.heap.size) (hk : KeptL l.length ps) (ha : Apart ps) (hgd : GoodA (bs.drop (num bs 16 4)) A) => show Calls Try.prog 46 #[.pointer (some ⟨gt, 0, none⟩), .pointer (some ⟨gl, 0, none⟩), .slice ak ps.length ck, .int .i64 (A : Nat)] V fun e w' =>
      ∃ a' c', e = .returned (.slice a' (perfL (bs.drop (num bs 16 4)) (bs.drop (num bs 20 4)) (bs.drop (num bs 24 4)) ps.length l ps A 0 []).2.length c') ∧ w'.ownsRow N 3 1 (.slice a' (perfL (bs.drop (num bs 16 4)) (bs.drop (num bs 20 4)) (bs.drop (num bs 24 4)) ps.length l ps A 0 []).2.length c') (perfL (bs.drop (num bs 16 4)) (bs.drop (num bs 20 4)) (bs.drop (num bs 24 4)) ps.length l ps A 0 []).2.length (iv (perfL (bs.drop (num bs 16 4)) (bs.drop (num bs 20 4)) (bs.drop (num bs 24 4)) ps.length l ps A 0 []).2)
        ∧ JFr bk L Bt gt bs rs S B gl g2 g3 (perfL (bs.drop (num bs 16 4)) (bs.drop (num bs 20 4)) (bs.drop (num bs 24 4)) ps.length l ps A 0 []).1 w' ∧ KeepC B (ownP bk N) V w' from by
    obtain ⟨a, c, hg, hbk⟩ := hi.line
    refine (perform_any L Bt gt B gl N bs rs S a c l ak ps.length ck ps A V hi.sub hL HOK.out.at_ hg hBl hBN hV hr rfl hk ha hi.ids hi.few hgd).mono ?_
    rintro e w' ⟨a', c', h1, h2, h3, h4⟩
    rw [hbk] at h4
    refine ⟨a', c', h1, h2, ⟨⟨a, c, h3, hbk⟩, hi.sub.keep h4 hL (notM_P _ _) (ownP_no (by decide) (by decide)) (ownP_no (by decide) (by decide)), (h4.kept _ _ _ _ hi.at2 (ownP_no (by decide) (by decide) _)).trans hi.at2, (h4.kept _ _ _ _ hi.at3 (ownP_no (by decide) (by decide) _)).trans hi.at3, by rw [perfL_length]; exact hi.few, perfL_keeps IdsOk (fun l i id gone h h1 h2 => oneL_ids l i id gone h h1 h2) _ _ _ _ _ _ _ _ _ hi.ids⟩, h4⟩)
  obtain ⟨p, hp⟩ : ∃ p, p = atG l (z : Nat) := ⟨_, rfl⟩
  obtain ⟨p1, p2⟩ := p
  have hin : inG l (z : Nat) = decide (z < l.length) := by unfold inG; simp
  rw [← hp, hin] at hat
  simp only [glyphA] at hat
  clear hin hp h hok hA hi hg xe
  by_cases hz : z < l.length
  · rw [decide_eq_true hz] at hat
    have HAT := Lib.hid hat
    clear hat
    by_cases hf : F / 2 ^ 15 % 2 = 1
    · have hbt : bits .and .i64 (F : Int) 32768 = 32768 := flag_yes F 15 hF (by decide) 32768 rfl hf
      have q3 := cell_of_heap x3 0
      simp only [List.getElem?_toArray, List.getElem?_cons_zero] at q3
      have HKP := Lib.hid (show keepL (l, ps) z F = pushK ps (z : Nat) by unfold keepL; rw [if_pos ⟨by omega, hz⟩])
      have HKK := Lib.hid (pushK_kept HI.out.kept (i := (z : Int)) ⟨by omega, by show (z : Int) < ((l.length : Nat) : Int); omega⟩)
      have HKA := Lib.hid (HI.out.apart.pushK (z : Int))
      have hps64 := HI.out.kept.1
      simp only at hps64
      go_enter Try.func43, Try.ntmps43
      go_wp2_with fail
      rw [← hW]
      clear hW q3 x2 x3
      refine HAT.out.mono ?_
      rintro e w1 ⟨rfl, hb1⟩
      obtain ⟨a5, c5, h5, hr5⟩ := (HI.out.below hb1).at5
      have q5 := cell_of_heap h5 0
      have xe1 := (hb1.block _ (Array.getElem?_eq_some_iff.1 HXE.out).1).trans HXE.out
      have qe := fun o => cell_of_heap xe1 o
      have le := (Array.getElem?_eq_some_iff.1 xe1).1
      have l5 := (Array.getElem?_eq_some_iff.1 h5).1
      simp only [List.getElem?_toArray, List.getElem?_cons_zero] at q5
      obtain ⟨V, hV⟩ : ∃ V, V = w1.alloc (Obj.cells #[.int .i64 p1, .int .i64 p2] 100) := ⟨_, rfl⟩
      have hbV : Below W.heap.size W V := by rw [hV]; exact balloc hb1 _
      have hzV := hbV.size
      have HIV := Lib.hid (HI.out.below hbV)
      have HKV := Lib.hid (HK.out.trans (KeepC.of (own := ownL bk N) hbV (by omega)))
      have h5V : V.heap[g5]? = some (.cells #[.slice a5 ps.length c5] 23 (0, 0)) := by rw [hV]; exact ((balloc (brefl w1) _).block g5 l5).trans h5
      have hr5V : V.ownsRow N 3 1 (.slice a5 ps.length c5) ps.length (iv ps) := by rw [hV]; exact owns_below hr5 (balloc (brefl w1) _) (Nat.le_refl _)
      have xeV : V.heap[w.heap.size]? = some (.cells #[.int .i64 (e0 : Nat), .int .i64 (F : Nat), .int .i64 (A : Nat), .int .i64 (Bw : Nat)] 59 (0, 0)) := by rw [hV]; exact ((balloc (brefl w1) _).block _ le).trans xe1
      have H5V := Lib.hid h5V
      have HR5V := Lib.hid hr5V
      have HXV := Lib.hid xeV
      clear hbV h5V hr5V xeV hr5 hb1 h5 xe1
      go_wp2_with fail
      rw [← hV]
      clear hV q5 qe le l5
      refine (HPUSH.out V a5 ps.length c5 ps (z : Nat) HR5V.out rfl hps64 (by omega)).mono ?_
      rintro e w3 ⟨a', c', rfl, hr, hst⟩
      have hkI := hst.keepI HR5V.out hBN
      have h53 := (hkI.kept _ _ _ _ H5V.out (fun h => absurd h.1 (by decide))).trans H5V.out
      have xe3 := (hkI.kept _ _ _ _ HXV.out (fun h => absurd h.1 (by decide))).trans HXV.out
      have hfr := HIV.out.fr.keep (N := N) hkI.ofIN hL
      have q5 := cell_of_heap h53 0
      have f5 := froz_of_heap h53 0
      simp only [List.getElem?_toArray, List.getElem?_cons_zero] at q5
      have l5 := (Array.getElem?_eq_some_iff.1 h53).1
      obtain ⟨hin4, hk4⟩ := JIn.put hfr h53 hr HKK.out HKA.out hN5 hBN hL
      have xe4 := (hk4.kept _ _ _ _ xe3 (ownN_no (by decide) (by decide) _)).trans xe3
      have hr4 := set_owns (g := g5) (o := 0) (.slice a' (pushK ps (z : Nat)).length c') hr (own_neE hr h53 (by decide))
      have h54 := set_heap_at (o := 0) (.slice a' (pushK ps (z : Nat)).length c') h53
      simp only [List.setIfInBounds_toArray, List.set_cons_zero] at h54
      have q24 := cell_of_heap hin4.fr.at2 0
      have q34 := cell_of_heap hin4.fr.at3 0
      have q54 := cell_of_heap h54 0
      have qe4 := fun o => cell_of_heap xe4 o
      simp only [List.getElem?_toArray, List.getElem?_cons_zero] at q24 q34 q54
      have l24 := cell_lt q24
      have l34 := cell_lt q34
      have l54 := cell_lt q54
      obtain ⟨w4, hw4⟩ : ∃ w4, w4 = w3.setCell ⟨g5, 0, none⟩ (.slice a' (pushK ps (z : Nat)).length c') := ⟨_, rfl⟩
      have HK4 := Lib.hid (HKV.out.trans (hkI.ofIN.ofN.trans hk4.ofN))
      have hN4 : N ≤ (w3.setCell ⟨g5, 0, none⟩ (.slice a' (pushK ps (z : Nat)).length c')).heap.size := by have := hk4.size; have := hkI.size; omega
      have le4 := (Array.getElem?_eq_some_iff.1 xe4).1
      simp only at l24 l34 l54
      by_cases hg : F / 8192 % 2 = 1
      · have hbg : bits .and .i64 (F : Int) 8192 = 8192 := flag_yes F 13 hF (by decide) 8192 rfl hg
        go_wp2_with fail
        rw [← hw4] at hin4 hk4 h54 xe4 HK4 hr4 hN4 ⊢
        clear q24 q34 q54 qe4 l24 l34 l54 le4 hw4
        refine (HPERF.out w4 l _ _ _ hin4.fr hr4 hN4 hin4.kept hin4.apart (HA.out hg)).mono ?_
        rintro e w5 ⟨a6, c6, rfl, hr6, hfr6, hk6⟩
        have h56 := (hk6.kept _ _ _ _ h54 (ownP_no (by decide) (by decide) _)).trans h54
        have q56 := cell_of_heap h56 0
        have f56 := froz_of_heap h56 0
        have l56 := (Array.getElem?_eq_some_iff.1 h56).1
        simp only [List.getElem?_toArray, List.getElem?_cons_zero] at q56
        have hK6 := hfr6.few
        have HFIN := Lib.hid (JIn.put hfr6 h56 hr6 (by rw [perfL_length]; exact perfL_kept _ _ _ _ _ _ _ _ _ _ hin4.kept) (perfL_apart _ _ _ _ _ _ _ _ _ hin4.apart) hN5 hBN hL)
        have HK6 := Lib.hid (HK4.out.trans hk6.ofPL)
        have HEQ := Lib.hid (show (actL (bs.drop (num bs 16 4)) (bs.drop (num bs 20 4)) (bs.drop (num bs 24 4)) (l, ps) z (e0, F, A, Bw)).1 = perfL (bs.drop (num bs 16 4)) (bs.drop (num bs 20 4)) (bs.drop (num bs 24 4)) (pushK ps (z : Nat)).length l (pushK ps (z : Nat)) A 0 [] from by unfold actL; simp only [HKP.out]; rw [if_pos hg])
        go_wp2_with fail
        go_end0
        rw [HEQ.out]
        exact ⟨rfl, HFIN.out.1, HK6.out.trans HFIN.out.2.ofN⟩
      · have hbg : bits .and .i64 (F : Int) 8192 = 0 := flag_no F 13 hF (by decide) 8192 rfl hg
        have HEQ := Lib.hid (show (actL (bs.drop (num bs 16 4)) (bs.drop (num bs 20 4)) (bs.drop (num bs 24 4)) (l, ps) z (e0, F, A, Bw)).1 = (l, pushK ps (z : Nat)) from by unfold actL; simp only [HKP.out]; rw [if_neg hg])
        go_wp2_with fail
        go_end0
        rw [HEQ.out]
        exact ⟨rfl, hin4, HK4.out⟩
    · have hbt : bits .and .i64 (F : Int) 32768 = 0 := flag_no F 15 hF (by decide) 32768 rfl hf
      have HKP := Lib.hid (show keepL (l, ps) z F = ps by unfold keepL; rw [if_neg (fun h => hf (by omega))])
      have q3 := cell_of_heap x3 0
      simp only [List.getElem?_toArray, List.getElem?_cons_zero] at q3
      go_enter Try.func43, Try.ntmps43
      go_wp2_with fail
      rw [← hW]
      clear hW q3 x2 x3
      refine HAT.out.mono ?_
      rintro e w1 ⟨rfl, hb1⟩
      have xe1 := (hb1.block _ (Array.getElem?_eq_some_iff.1 HXE.out).1).trans HXE.out
      have qe := fun o => cell_of_heap xe1 o
      have le := (Array.getElem?_eq_some_iff.1 xe1).1
      have hi1 := HI.out.below hb1
      obtain ⟨a', c', h51, hr1⟩ := hi1.at5
      have q21 := cell_of_heap hi1.fr.at2 0
      have q31 := cell_of_heap hi1.fr.at3 0
      have q51 := cell_of_heap h51 0
      simp only [List.getElem?_toArray, List.getElem?_cons_zero] at q21 q31 q51
      have l21 := cell_lt q21
      have l31 := cell_lt q31
      have l51 := cell_lt q51
      simp only at l21 l31 l51
      obtain ⟨V, hV⟩ : ∃ V, V = w1.alloc (Obj.cells #[.int .i64 p1, .int .i64 p2] 100) := ⟨_, rfl⟩
      have hbV : Below W.heap.size W V := by rw [hV]; exact balloc hb1 _
      have hin4 := HI.out.below hbV
      have HK4 := Lib.hid (HK.out.trans (KeepC.of (own := ownL bk N) hbV (by omega)))
      have xe4 : V.heap[w.heap.size]? = some (.cells #[.int .i64 (e0 : Nat), .int .i64 (F : Nat), .int .i64 (A : Nat), .int .i64 (Bw : Nat)] 59 (0, 0)) := by rw [hV]; exact ((balloc (brefl w1) _).block _ le).trans xe1
      have h54 : V.heap[g5]? = some (.cells #[.slice a' ps.length c'] 23 (0, 0)) := by rw [hV]; exact ((balloc (brefl w1) _).block g5 l51).trans h51
      have hr4 : V.ownsRow N 3 1 (.slice a' ps.length c') ps.length (iv ps) := by rw [hV]; exact owns_below hr1 (balloc (brefl w1) _) (Nat.le_refl _)
      clear hr1 h51 hi1
      have hN4 : N ≤ V.heap.size := by have := hbV.size; omega
      rw [hV] at xe4 h54 hin4
      have q24 := cell_of_heap hin4.fr.at2 0
      have q34 := cell_of_heap hin4.fr.at3 0
      have q54 := cell_of_heap h54 0
      have qe4 := fun o => cell_of_heap xe4 o
      simp only [List.getElem?_toArray, List.getElem?_cons_zero] at q24 q34 q54
      have l24 := cell_lt q24
      have l34 := cell_lt q34
      have l54 := cell_lt q54
      have le4 := (Array.getElem?_eq_some_iff.1 xe4).1
      simp only at l24 l34 l54
      clear hb1 xe1 hbV
      by_cases hg : F / 8192 % 2 = 1
      · have hbg : bits .and .i64 (F : Int) 8192 = 8192 := flag_yes F 13 hF (by decide) 8192 rfl hg
        go_wp2_with fail
        rw [← hV] at hin4 h54 xe4 ⊢
        clear q24 q34 q54 qe4 l24 l34 l54 le4 qe le hV q21 q31 q51 l21 l31 l51
        refine (HPERF.out V l _ _ _ hin4.fr hr4 hN4 hin4.kept hin4.apart (HA.out hg)).mono ?_
        rintro e w5 ⟨a6, c6, rfl, hr6, hfr6, hk6⟩
        have h56 := (hk6.kept _ _ _ _ h54 (ownP_no (by decide) (by decide) _)).trans h54
        have q56 := cell_of_heap h56 0
        have f56 := froz_of_heap h56 0
        have l56 := (Array.getElem?_eq_some_iff.1 h56).1
        simp only [List.getElem?_toArray, List.getElem?_cons_zero] at q56
        have hK6 := hfr6.few
        have HFIN := Lib.hid (JIn.put hfr6 h56 hr6 (by rw [perfL_length]; exact perfL_kept _ _ _ _ _ _ _ _ _ _ hin4.kept) (perfL_apart _ _ _ _ _ _ _ _ _ hin4.apart) hN5 hBN hL)
        have HK6 := Lib.hid (HK4.out.trans hk6.ofPL)
        have HEQ := Lib.hid (show (actL (bs.drop (num bs 16 4)) (bs.drop (num bs 20 4)) (bs.drop (num bs 24 4)) (l, ps) z (e0, F, A, Bw)).1 = perfL (bs.drop (num bs 16 4)) (bs.drop (num bs 20 4)) (bs.drop (num bs 24 4)) (ps).length l (ps) A 0 [] from by unfold actL; simp only [HKP.out]; rw [if_pos hg])
        go_wp2_with fail
        go_end0
        rw [HEQ.out]
        exact ⟨rfl, HFIN.out.1, HK6.out.trans HFIN.out.2.ofN⟩
      · have hbg : bits .and .i64 (F : Int) 8192 = 0 := flag_no F 13 hF (by decide) 8192 rfl hg
        have HEQ := Lib.hid (show (actL (bs.drop (num bs 16 4)) (bs.drop (num bs 20 4)) (bs.drop (num bs 24 4)) (l, ps) z (e0, F, A, Bw)).1 = (l, ps) from by unfold actL; simp only [HKP.out]; rw [if_neg hg])
        go_wp2_with fail
        go_end0
        rw [HEQ.out]
        exact ⟨rfl, hin4, by rw [← hV]; exact HK4.out⟩
  · rw [decide_eq_false hz] at hat
    have HAT := Lib.hid hat
    clear hat
    have HKP := Lib.hid (show keepL (l, ps) z F = ps by unfold keepL; rw [if_neg (fun h => hz h.2)])
    have q3 := cell_of_heap x3 0
    simp only [List.getElem?_toArray, List.getElem?_cons_zero] at q3
    go_enter Try.func43, Try.ntmps43
    go_wp2_with fail
    rw [← hW]
    clear hW q3 x2 x3
    refine HAT.out.mono ?_
    rintro e w1 ⟨rfl, hb1⟩
    have xe1 := (hb1.block _ (Array.getElem?_eq_some_iff.1 HXE.out).1).trans HXE.out
    have qe := fun o => cell_of_heap xe1 o
    have le := (Array.getElem?_eq_some_iff.1 xe1).1
    have hi1 := HI.out.below hb1
    obtain ⟨a', c', h51, hr1⟩ := hi1.at5
    have q21 := cell_of_heap hi1.fr.at2 0
    have q31 := cell_of_heap hi1.fr.at3 0
    have q51 := cell_of_heap h51 0
    simp only [List.getElem?_toArray, List.getElem?_cons_zero] at q21 q31 q51
    have l21 := cell_lt q21
    have l31 := cell_lt q31
    have l51 := cell_lt q51
    simp only at l21 l31 l51
    obtain ⟨V, hV⟩ : ∃ V, V = w1.alloc (Obj.cells #[.int .i64 p1, .int .i64 p2] 100) := ⟨_, rfl⟩
    have hbV : Below W.heap.size W V := by rw [hV]; exact balloc hb1 _
    have hin4 := HI.out.below hbV
    have HK4 := Lib.hid (HK.out.trans (KeepC.of (own := ownL bk N) hbV (by omega)))
    have xe4 : V.heap[w.heap.size]? = some (.cells #[.int .i64 (e0 : Nat), .int .i64 (F : Nat), .int .i64 (A : Nat), .int .i64 (Bw : Nat)] 59 (0, 0)) := by rw [hV]; exact ((balloc (brefl w1) _).block _ le).trans xe1
    have h54 : V.heap[g5]? = some (.cells #[.slice a' ps.length c'] 23 (0, 0)) := by rw [hV]; exact ((balloc (brefl w1) _).block g5 l51).trans h51
    have hr4 : V.ownsRow N 3 1 (.slice a' ps.length c') ps.length (iv ps) := by rw [hV]; exact owns_below hr1 (balloc (brefl w1) _) (Nat.le_refl _)
    clear hr1 h51 hi1
    have hN4 : N ≤ V.heap.size := by have := hbV.size; omega
    rw [hV] at xe4 h54 hin4
    have q24 := cell_of_heap hin4.fr.at2 0
    have q34 := cell_of_heap hin4.fr.at3 0
    have q54 := cell_of_heap h54 0
    have qe4 := fun o => cell_of_heap xe4 o
    simp only [List.getElem?_toArray, List.getElem?_cons_zero] at q24 q34 q54
    have l24 := cell_lt q24
    have l34 := cell_lt q34
    have l54 := cell_lt q54
    have le4 := (Array.getElem?_eq_some_iff.1 xe4).1
    simp only at l24 l34 l54
    clear hb1 xe1 hbV
    by_cases hg : F / 8192 % 2 = 1
    · have hbg : bits .and .i64 (F : Int) 8192 = 8192 := flag_yes F 13 hF (by decide) 8192 rfl hg
      go_wp2_with fail
      rw [← hV] at hin4 h54 xe4 ⊢
      clear q24 q34 q54 qe4 l24 l34 l54 le4 qe le hV q21 q31 q51 l21 l31 l51
      refine (HPERF.out V l _ _ _ hin4.fr hr4 hN4 hin4.kept hin4.apart (HA.out hg)).mono ?_
      rintro e w5 ⟨a6, c6, rfl, hr6, hfr6, hk6⟩
      have h56 := (hk6.kept _ _ _ _ h54 (ownP_no (by decide) (by decide) _)).trans h54
      have q56 := cell_of_heap h56 0
      have f56 := froz_of_heap h56 0
      have l56 := (Array.getElem?_eq_some_iff.1 h56).1
      simp only [List.getElem?_toArray, List.getElem?_cons_zero] at q56
      have hK6 := hfr6.few
      have HFIN := Lib.hid (JIn.put hfr6 h56 hr6 (by rw [perfL_length]; exact perfL_kept _ _ _ _ _ _ _ _ _ _ hin4.kept) (perfL_apart _ _ _ _ _ _ _ _ _ hin4.apart) hN5 hBN hL)
      have HK6 := Lib.hid (HK4.out.trans hk6.ofPL)
      have HEQ := Lib.hid (show (actL (bs.drop (num bs 16 4)) (bs.drop (num bs 20 4)) (bs.drop (num bs 24 4)) (l, ps) z (e0, F, A, Bw)).1 = perfL (bs.drop (num bs 16 4)) (bs.drop (num bs 20 4)) (bs.drop (num bs 24 4)) (ps).length l (ps) A 0 [] from by unfold actL; simp only [HKP.out]; rw [if_pos hg])
      go_wp2_with fail
      go_end0
      rw [HEQ.out]
      exact ⟨rfl, HFIN.out.1, HK6.out.trans HFIN.out.2.ofN⟩
    · have hbg : bits .and .i64 (F : Int) 8192 = 0 := flag_no F 13 hF (by decide) 8192 rfl hg
      have HEQ := Lib.hid (show (actL (bs.drop (num bs 16 4)) (bs.drop (num bs 20 4)) (bs.drop (num bs 24 4)) (l, ps) z (e0, F, A, Bw)).1 = (l, ps) from by unfold actL; simp only [HKP.out]; rw [if_neg hg])
      go_wp2_with fail
      go_end0
      rw [HEQ.out]
      exact ⟨rfl, hin4, by rw [← hV]; exact HK4.out⟩
end Go.Proofs.Ythehcbbdkiomnaa
end
section

/- liga.Run: what a subtable that makes one glyph of several does to a line. Conditions: a subtable and a line in memory; sizes. -/
namespace Go.Proofs.Ythehcbbdkiomnaa
open Go.RowKit Go.Lib

structure JSee (bk : Option Nat) (L Bt gt : Nat) (bs : List UInt8) (rs : List RP) (S : Nat) (B gl g2 g3 g5 N gx : Nat) (x : LX) (w : World) : Prop where
  inv : JIn bk L Bt gt bs rs S B gl g2 g3 g5 N x w
  fn : w.heap[gx]? = some (.cells #[.func (.func 43) #[] #[.pointer (some ⟨g3, 0, none⟩), .pointer (some ⟨g5, 0, none⟩), .pointer (some ⟨g2, 0, none⟩)]] 124 (0, 0))
theorem JSee.below {bk : Option Nat} {L Bt gt : Nat} {bs : List UInt8} {rs : List RP} {S B gl g2 g3 g5 N gx : Nat} {x : LX} {w w' : World} (h : JSee bk L Bt gt bs rs S B gl g2 g3 g5 N gx x w) (hb : Below w.heap.size w w') : JSee bk L Bt gt bs rs S B gl g2 g3 g5 N gx x w' :=
  ⟨h.inv.below hb, (hb.block gx (Array.getElem?_eq_some_iff.1 h.fn).1).trans h.fn⟩
set_option maxRecDepth 100000 in
set_option maxHeartbeats 1600000 in
theorem jplain_any {bk : Option Nat} (L Bt gt : Nat) (bs : List UInt8) (rs : List RP) (S glyphs : Nat) (B gl g2 g3 g5 N gx : Nat) (x : LX) (z : Nat) (e : Ent) (w : World) (h : JSee bk L Bt gt bs rs S B gl g2 g3 g5 N gx x w) (hok : JOk bs glyphs rs S) (hL : L ≤ B) (hBl : B ≤ gl) (hBN : B ≤ N) (hN5 : N ≤ g5) (hNw : N ≤ w.heap.size) (hF : e.2.1 ≤ 65535) (hA : e.2.1 / 8192 % 2 = 1 → GoodA (bs.drop (num bs 16 4)) e.2.2.1) (hz : z ≤ 900000000) :
    Calls Try.prog 75 #[.int .i64 (z : Nat), entV4 e, .pointer (some ⟨gx, 0, none⟩)] w fun r w' => r = .returned (.tuple #[.int .i64 (actL (bs.drop (num bs 16 4)) (bs.drop (num bs 20 4)) (bs.drop (num bs 24 4)) x z e).2.1, .int .i64 (actL (bs.drop (num bs 16 4)) (bs.drop (num bs 20 4)) (bs.drop (num bs 24 4)) x z e).2.2]) ∧ JSee bk L Bt gt bs rs S B gl g2 g3 g5 N gx (actL (bs.drop (num bs 16 4)) (bs.drop (num bs 20 4)) (bs.drop (num bs 24 4)) x z e).1 w' ∧ KeepC B (ownL bk N) w w' := by
  have hAC := allocC
  have hAF := allocF
  have hN := fn_nilC
  have hX := h.fn
  have hxl := (Array.getElem?_eq_some_iff.1 hX).1
  have cx := cell_of_heap hX 0
  simp only [List.getElem?_toArray, List.getElem?_cons_zero] at cx
  have HD := Lib.hid (fun (o : Array Value) => jdo_any L Bt gt bs rs S glyphs B gl g2 g3 g5 N x z e (w.alloc (.cells o 59)) (h.inv.below (balloc (brefl w) _)) hok hL hBl hBN hN5 (by rw [World.size_alloc]; omega) hF hA)
  have HX := Lib.hid (fun (o : Array Value) W (hk : KeepC B (ownL bk N) (w.alloc (.cells o 59)) W) => (hk.kept _ _ _ _ (((balloc (brefl w) (.cells o 59)).block _ hxl).trans hX) (ownL_no (by decide) (by decide) (by decide) _)).trans (((balloc (brefl w) (.cells o 59)).block _ hxl).trans hX))
  have HK := Lib.hid (fun (o : Array Value) => KeepC.of (B := B) (own := ownL bk N) (balloc (brefl w) (.cells o 59)) (by omega))
  have hr : (actL (bs.drop (num bs 16 4)) (bs.drop (num bs 20 4)) (bs.drop (num bs 24 4)) x z e).2 = ((z : Int), (z : Int) + 1) := rfl
  obtain ⟨e0, F, e2, e3⟩ := e
  generalize actL (bs.drop (num bs 16 4)) (bs.drop (num bs 20 4)) (bs.drop (num bs 24 4)) x z (e0, F, e2, e3) = R at *
  obtain ⟨R1, R2⟩ := R
  simp only at hr
  subst hr
  simp only [entV4] at HD ⊢
  clear h hX hF hA hok
  go_enter Try.func75, Try.ntmps75
  go_wp2_with (go_at_call 43; (with_reducible refine (HD.out _).mono ?_); rintro r w1 ⟨rfl, hr, hk⟩; have HR := Lib.hid hr; have HX1 := Lib.hid (HX.out _ _ hk); have HK1 := Lib.hid ((HK.out _).trans hk); clear hr hk)
  refine bodyPost_ret (v := .tuple #[.int .i64 (z : Nat), .int .i64 ((z : Int) + 1)]) (by simp [results, Try.results75, go_sem]) rfl ?_
  exact ⟨rfl, ⟨HR.out, HX1.out⟩, HK1.out⟩
theorem jplainf_any (fn : Fn) (first cap : Array Value) (w : World) :
    Calls Try.prog 42 #[.func fn first cap] w fun e w' => e = .returned (.func (.func 75) #[] #[.pointer (some ⟨w.heap.size, 0, none⟩)]) ∧ w' = w.alloc (.cells #[.func fn first cap] 124) := by
  go_enter Try.func42, Try.ntmps42
  go_wp2_with fail
  go_ret
  exact ⟨rfl, rfl⟩
/-- What is new is nobody else's. -/
theorem KeepC.oldL {bk : Option Nat} {B N : Nat} {w w' : World} (h : KeepC B (ownL bk N) w w') (hN : w.heap.size ≤ N) : KeepC B (ownS bk) w w' :=
  ⟨h.below, h.size, fun k cs t fz hk ho => h.kept k cs t fz hk fun hs => by
    rcases hs with hs | hs
    · exact ho hs
    · have := (Array.getElem?_eq_some_iff.1 hk).1
      have := hs.2
      omega⟩
def ownLG (_ t : Nat) : Prop := t = 100 ∨ t = 3 ∨ t = 23
theorem ownL.g {bk : Option Nat} {N k t : Nat} (h : ownL bk N k t) : ownLG k t := h.imp And.left And.left
set_option maxRecDepth 100000 in
set_option maxHeartbeats 3200000 in
theorem jrun_any (L Bt gt : Nat) (bs : List UInt8) (glyphs : Nat) (rs : List RP) (S : Nat) (B gl : Nat) (a : Option Addr) (c : Nat) (l : List (Int × Int)) (w : World)
    (hT : JIs L Bt gt bs rs S w) (hok : JOk bs glyphs rs S) (hg1 : 1 ≤ glyphs) (hg2 : glyphs ≤ 65535) (hL : L ≤ B) (hBl : B ≤ gl)
    (hG : GIs B gl a c l w) (hB : B ≤ w.heap.size) (hids : IdsOk l) (hl : l.length ≤ 1000000) :
    Calls Try.prog 14 #[.pointer (some ⟨gt, 0, none⟩), .pointer (some ⟨gl, 0, none⟩)] w fun e w' => e = .returned (.int .i64 ((ligD bs rs (bs.drop (num bs 16 4)) (bs.drop (num bs 20 4)) (bs.drop (num bs 24 4)) l).2.2 : Nat)) ∧ (∃ a' c', GIs B gl a' c' (ligD bs rs (bs.drop (num bs 16 4)) (bs.drop (num bs 20 4)) (bs.drop (num bs 24 4)) l).1.1 w' ∧ a'.map (·.block) = a.map (·.block)) ∧ KeepC B (ownS (a.map (·.block))) w w' := by
  have hAC := allocC
  have hAF := allocF
  go_enter Try.func14, Try.ntmps14
  go_wp2_with fail
  obtain ⟨N, hNN⟩ : ∃ N, N = w.heap.size := ⟨_, rfl⟩
  obtain ⟨W, hW⟩ : ∃ W, W = ((w.alloc (Obj.cells #[.pointer (some ⟨gt, 0, none⟩)] 25)).alloc (Obj.cells #[.pointer (some ⟨gl, 0, none⟩)] 38)).alloc (Obj.cells #[.slice none 0 0] 23) := ⟨_, rfl⟩
  have hbW : Below w.heap.size w W := by rw [hW]; exact balloc (balloc (balloc (brefl w) _) _) _
  have hzW : W.heap.size = w.heap.size + 1 + 1 + 1 := by rw [hW]; simp
  have h2 : W.heap[w.heap.size]? = some (.cells #[.pointer (some ⟨gt, 0, none⟩)] 25 (0, 0)) := by
    rw [hW, heap_push, if_neg (by simp only [World.size_alloc]; omega), heap_push, if_neg (by simp only [World.size_alloc]; omega), heap_push, if_pos rfl]
  have h3 : W.heap[w.heap.size + 1]? = some (.cells #[.pointer (some ⟨gl, 0, none⟩)] 38 (0, 0)) := by
    rw [hW, heap_push, if_neg (by simp only [World.size_alloc]; omega), heap_push, if_pos (by simp only [World.size_alloc])]
  have h5 : W.heap[w.heap.size + 1 + 1]? = some (.cells #[.slice none 0 0] 23 (0, 0)) := by
    rw [hW, heap_push, if_pos (by simp only [World.size_alloc])]
  have hI : JIn (a.map (·.block)) L Bt gt bs rs S B gl w.heap.size (w.heap.size + 1) (w.heap.size + 1 + 1) N (l, []) W := ⟨⟨⟨a, c, hG.below hbW, rfl⟩, hT.below hbW, h2, h3, hl, hids⟩, ⟨none, 0, h5, World.ownsRow_nil _ _ _ _⟩, ⟨Nat.zero_le _, fun i hi => by cases hi⟩, Apart.nil⟩
  obtain ⟨g, ab, cb, e1, e2, _, _, _⟩ := hT.is
  have ht := (hbW.block gt (Array.getElem?_eq_some_iff.1 e1).1).trans e1
  rw [← hW]
  have hsee : JSee (a.map (·.block)) L Bt gt bs rs S B gl w.heap.size (w.heap.size + 1) (w.heap.size + 1 + 1) N W.heap.size (l, []) (W.alloc (.cells #[.func (.func 43) #[] #[.pointer (some ⟨w.heap.size + 1, 0, none⟩), .pointer (some ⟨w.heap.size + 1 + 1, 0, none⟩), .pointer (some ⟨w.heap.size, 0, none⟩)]] 124)).drew :=
    ⟨hI.below (bdrew1 (balloc (brefl W) _)), by show (W.alloc _).heap[W.heap.size]? = _; rw [heap_push]; exact if_pos rfl⟩
  have hbX : Below w.heap.size w (W.alloc (.cells #[.func (.func 43) #[] #[.pointer (some ⟨w.heap.size + 1, 0, none⟩), .pointer (some ⟨w.heap.size + 1 + 1, 0, none⟩), .pointer (some ⟨w.heap.size, 0, none⟩)]] 124)).drew := hbW.trans ((bdrew1 (balloc (brefl W) _)).mono hbW.size)
  have hS : S ≤ 65536 := hok.mok.least.least 65536 ⟨by decide, needS_le bs 1 _⟩
  have hfit := hok.mok.lk.fit hg2 (.inl rfl)
  have hrun := drunE_any (X := LX) (fun x => x.1) (JSee (a.map (·.block)) L Bt gt bs rs S B gl w.heap.size (w.heap.size + 1) (w.heap.size + 1 + 1) N W.heap.size) (actL (bs.drop (num bs 16 4)) (bs.drop (num bs 20 4)) (bs.drop (num bs 24 4))) (ownL (a.map (·.block)) N) 1 Bt g bs 1 glyphs rs S B B gl W.heap.size (l, []) _ (e2.below hbX) hS hok.mok hg1 hfit (notM_L _ _) (Nat.le_trans hB hbX.size) hsee (fun x V V' h hb => h.below hb) (fun x V h => by obtain ⟨a', c', hg, _⟩ := h.inv.fr.line; exact ⟨a', c', hg⟩) (fun x V h => h.inv.fr.ids) l.length rfl hl (by omega) (fun x z e => ⟨by simp [actL]; omega, by simp [actL]⟩)
    (fun x V z e h hk hz hsc _ hF _ _ => by
      obtain ⟨s, c, hs, hc, he⟩ := hsc
      have hgd := hok.good _ (ent_in hs hc)
      refine jplain_any L Bt gt bs rs S glyphs B gl _ _ _ N _ x z e V h hok hL hBl (by omega) (by omega) ?_ hF ?_ (by omega)
      · have := hk.size
        have := hbX.size
        omega
      · rw [he]
        exact hgd)
  change Calls _ _ _ _ (fun e w' => e = .returned (.tuple #[.int .i64 ((ligD bs rs (bs.drop (num bs 16 4)) (bs.drop (num bs 20 4)) (bs.drop (num bs 24 4)) l).2.1 : Nat), .int .i64 ((ligD bs rs (bs.drop (num bs 16 4)) (bs.drop (num bs 20 4)) (bs.drop (num bs 24 4)) l).2.2 : Nat)]) ∧ JSee (a.map (·.block)) L Bt gt bs rs S B gl w.heap.size (w.heap.size + 1) (w.heap.size + 1 + 1) N W.heap.size (ligD bs rs (bs.drop (num bs 16 4)) (bs.drop (num bs 20 4)) (bs.drop (num bs 24 4)) l).1 w' ∧ KeepC B (ownL (a.map (·.block)) N) _ w') at hrun
  obtain ⟨R, hR⟩ : ∃ R, R = ligD bs rs (bs.drop (num bs 16 4)) (bs.drop (num bs 20 4)) (bs.drop (num bs 24 4)) l := ⟨_, rfl⟩
  rw [← hR] at hrun
  have HR := Lib.hid hR
  clear hR
  have HRUN := Lib.hid hrun
  have HKX := Lib.hid (KeepC.of (B := B) (own := ownL (a.map (·.block)) N) hbX hB)
  have HBW := Lib.hid hbW
  have HNN := Lib.hid (show w.heap.size ≤ N by omega)
  obtain ⟨n, hn⟩ : ∃ n, n = bs.length := ⟨_, rfl⟩
  rw [← hn] at ht
  clear hn hzW hW hI h5 hsee hbX hrun hok hfit hG hids hT e1 e2 hNN
  refine wp_region_tree (.step 0 (.step 1 (.step 2 (.step 3 (.step 4 (.step 5 (.step 6 (.step 7 (.step 8 (.step 9 (.step 10 (.step 11 (.step 12 .nil))))))))))))) (by kernel_rfl) (by kernel_rfl) (by kernel_rfl) (by kernel_rfl) (by intro _ _ d_ _ _ h_; cases d_ <;> first | exact h_ | (dsimp +zetaDelta only at h_ ⊢; exact h_)) (fun w' => ∃ p : KepP (ownLG) W, w' = p.val) (kepP_start _ _) ?_
  have hK0_ := fun (p : KepP (ownLG) W) (o : Nat) => p.is.cell ht (by first | (intro h_; exact absurd h_.1 (by decide)) | (intro h_; exact h_.2 rfl) | (intro h_; rcases h_ with h_ | h_ | h_ <;> exact absurd h_ (by decide)) | (intro h_; rcases h_ with h_ | h_ <;> exact absurd h_ (by decide))) o
  have hK1_ := fun (p : KepP (ownLG) W) (o : Nat) => p.is.cell h2 (by first | (intro h_; exact absurd h_.1 (by decide)) | (intro h_; exact h_.2 rfl) | (intro h_; rcases h_ with h_ | h_ | h_ <;> exact absurd h_ (by decide)) | (intro h_; rcases h_ with h_ | h_ <;> exact absurd h_ (by decide))) o
  have hK2_ := fun (p : KepP (ownLG) W) (o : Nat) => p.is.cell h3 (by first | (intro h_; exact absurd h_.1 (by decide)) | (intro h_; exact h_.2 rfl) | (intro h_; rcases h_ with h_ | h_ | h_ <;> exact absurd h_ (by decide)) | (intro h_; rcases h_ with h_ | h_ <;> exact absurd h_ (by decide))) o
  (refine tree_quiet gtA (by rfl) (by rfl) (fun K_ hK_ => ?_); go_big_quiet_op; refine hK_ _ ?_; clear hK_ K_)
  (refine tree_quiet gtA (by rfl) (by rfl) (fun K_ hK_ => ?_); go_big_quiet_op; refine hK_ _ ?_; clear hK_ K_)
  (refine tree_quiet gtA (by rfl) (by rfl) (fun K_ hK_ => ?_); go_big_quiet_op; refine hK_ _ ?_; clear hK_ K_)
  (refine tree_quiet gtA (by rfl) (by rfl) (fun K_ hK_ => ?_); go_big_quiet_op; refine hK_ _ ?_; clear hK_ K_)
  (refine tree_quiet gtA (by rfl) (by rfl) (fun K_ hK_ => ?_); go_big_quiet_op; refine hK_ _ ?_; clear hK_ K_)
  (refine tree_quiet gtA (by rfl) (by rfl) (fun K_ hK_ => ?_); go_big_quiet_op; refine hK_ _ ?_; clear hK_ K_)
  (refine tree_run gtA (by rfl) (by rfl) (fun K_ hK_ => ?_); have HK_ := Lib.hid hK_; clear hK_; go_wp2_with (first | (go_at_call 42; (with_reducible refine (jplainf_any _ _ _ _).mono ?_); rintro e w5 ⟨rfl, rfl⟩; have hko4 : KeptO ownLG W (W.drew.alloc (.cells #[.func (.func 43) #[] #[.pointer (some ⟨w.heap.size + 1, 0, none⟩), .pointer (some ⟨w.heap.size + 1 + 1, 0, none⟩), .pointer (some ⟨w.heap.size, 0, none⟩)]] 124)) := KeptO.below (balloc (bdrew1 (brefl W)) _); have hko5 : KeptO ownLG W (W.alloc (.cells #[.func (.func 43) #[] #[.pointer (some ⟨w.heap.size + 1, 0, none⟩), .pointer (some ⟨w.heap.size + 1 + 1, 0, none⟩), .pointer (some ⟨w.heap.size, 0, none⟩)]] 124)).drew := KeptO.below (bdrew1 (balloc (brefl W) _))) | (go_at_call 41; (with_reducible refine HRUN.out.mono ?_); rintro e w7 ⟨rfl, hx7, hk7⟩; have HX7 := Lib.hid hx7; have HK7 := Lib.hid (HKX.out.trans hk7); have hko7 : KeptO ownLG W w7 := hko5.trans ⟨hk7.size, fun k cs t fz hk ho => hk7.kept k cs t fz hk (fun h => ho h.g)⟩; clear hx7 hk7)); refine HK_.out _ _ (kepP_ofA) ?_; clear HK_)
  (refine tree_run gtA (by rfl) (by rfl) (fun K_ hK_ => ?_); have HK_ := Lib.hid hK_; clear hK_; go_wp2_with (first | (go_at_call 42; (with_reducible refine (jplainf_any _ _ _ _).mono ?_); rintro e w5 ⟨rfl, rfl⟩; have hko4 : KeptO ownLG W (W.drew.alloc (.cells #[.func (.func 43) #[] #[.pointer (some ⟨w.heap.size + 1, 0, none⟩), .pointer (some ⟨w.heap.size + 1 + 1, 0, none⟩), .pointer (some ⟨w.heap.size, 0, none⟩)]] 124)) := KeptO.below (balloc (bdrew1 (brefl W)) _); have hko5 : KeptO ownLG W (W.alloc (.cells #[.func (.func 43) #[] #[.pointer (some ⟨w.heap.size + 1, 0, none⟩), .pointer (some ⟨w.heap.size + 1 + 1, 0, none⟩), .pointer (some ⟨w.heap.size, 0, none⟩)]] 124)).drew := KeptO.below (bdrew1 (balloc (brefl W) _))) | (go_at_call 41; (with_reducible refine HRUN.out.mono ?_); rintro e w7 ⟨rfl, hx7, hk7⟩; have HX7 := Lib.hid hx7; have HK7 := Lib.hid (HKX.out.trans hk7); have hko7 : KeptO ownLG W w7 := hko5.trans ⟨hk7.size, fun k cs t fz hk ho => hk7.kept k cs t fz hk (fun h => ho h.g)⟩; clear hx7 hk7)); refine HK_.out _ _ (kepP_ofA) ?_; clear HK_)
  (refine tree_quiet gtA (by rfl) (by rfl) (fun K_ hK_ => ?_); go_big_quiet_op; refine hK_ _ ?_; clear hK_ K_)
  (refine tree_quiet gtA (by rfl) (by rfl) (fun K_ hK_ => ?_); go_big_quiet_op; refine hK_ _ ?_; clear hK_ K_)
  (refine tree_quiet gtA (by rfl) (by rfl) (fun K_ hK_ => ?_); go_big_quiet_op; refine hK_ _ ?_; clear hK_ K_)
  (refine tree_quiet gtA (by rfl) (by rfl) (fun K_ hK_ => ?_); go_big_quiet_op; refine hK_ _ ?_; clear hK_ K_)
  (refine tree_quiet gtA (by rfl) (by rfl) (fun K_ hK_ => ?_); go_big_quiet_op; refine hK_ _ ?_; clear hK_ K_)
  refine tree_nil ?_
  clear hK0_ hK1_ hK2_
  go_wp2_with fail
  go_ret
  rw [← HR.out]
  exact ⟨rfl, HX7.out.inv.fr.line, HK7.out.oldL HNN.out⟩
end Go.Proofs.Ythehcbbdkiomnaa
end
section

/- A subtable of layer 17 whose entries perform nothing, or keep nothing: flags that are taken away, and what a plan's bytes tell of them. No walk. Conditions: a plan of a machine; the bytes' places below 65536. -/
namespace Go.Proofs.Ythehcbbdkiomnaa
open Go.RowKit Go.Lib

def bitJ (which : Bool) : Int := if which then 8192 else 32768
def flagJ (which : Bool) (x : Int) : Int := bits .andNot .i64 x (bitJ which)
theorem flagJ_nat (which : Bool) (x : Int) : ∃ v : Nat, v < 18446744073709551616 ∧ IdlesL which (v % 65536) ∧ flagJ which x = IntKind.wrap .i64 (v : Int) := by
  cases which with
  | true =>
    refine ⟨(BitVec.ofInt 64 x &&& ~~~ (BitVec.ofInt 64 8192)).toNat, BitVec.isLt _, ?_, ?_⟩
    · show _ % 65536 / 8192 % 2 = 0
      have h : (BitVec.ofInt 64 x &&& ~~~ (BitVec.ofInt 64 8192)).toNat.testBit 13 = false := by
        rw [BitVec.testBit_toNat, BitVec.getLsbD_and, BitVec.getLsbD_not]
        have : (BitVec.ofInt 64 8192).getLsbD 13 = true := by decide
        rw [this]
        simp
      rw [Nat.testBit_eq_decide_div_mod_eq, decide_eq_false_iff_not] at h
      omega
    · unfold flagJ bitJ
      rw [if_pos rfl]
      simp only [bits]
      rfl
  | false =>
    refine ⟨(BitVec.ofInt 64 x &&& ~~~ (BitVec.ofInt 64 32768)).toNat, BitVec.isLt _, ?_, ?_⟩
    · show _ % 65536 < 32768
      have h : (BitVec.ofInt 64 x &&& ~~~ (BitVec.ofInt 64 32768)).toNat.testBit 15 = false := by
        rw [BitVec.testBit_toNat, BitVec.getLsbD_and, BitVec.getLsbD_not]
        have : (BitVec.ofInt 64 32768).getLsbD 15 = true := by decide
        rw [this]
        simp
      rw [Nat.testBit_eq_decide_div_mod_eq, decide_eq_false_iff_not] at h
      omega
    · unfold flagJ bitJ
      rw [if_neg (by decide)]
      simp only [bits]
      rfl
theorem flagJ_wf (which : Bool) (x : Int) : -9223372036854775808 ≤ flagJ which x ∧ flagJ which x ≤ 9223372036854775807 := by
  obtain ⟨v, hv, _, h⟩ := flagJ_nat which x
  rw [h, IntKind.wrap_i64]
  omega
theorem flagJ_idles (which : Bool) (x : Int) : IdlesL which (m16 (flagJ which x)) := by
  obtain ⟨v, hv, hb, h⟩ := flagJ_nat which x
  have : m16 (flagJ which x) = v % 65536 := by
    unfold m16
    rw [h, IntKind.wrap_i64]
    omega
  rw [this]
  exact hb
def idleJ (which : Bool) (e : Int × Int × Int × Int) : Int × Int × Int × Int := (e.1, flagJ which e.2.1, e.2.2.1, e.2.2.2)
def PlanL.idleJ (p : PlanL) (which : Bool) : PlanL := ⟨p.cls, p.rows, p.ents.map (Go.Proofs.Ythehcbbdkiomnaa.idleJ which), p.wide⟩
theorem idleJ_wf (which : Bool) (l : List (Int × Int × Int × Int)) (h : ∀ e ∈ l, wfI e.1 ∧ wfI e.2.1 ∧ wfI e.2.2.1 ∧ wfI e.2.2.2) : ∀ e ∈ l.map (idleJ which), wfI e.1 ∧ wfI e.2.1 ∧ wfI e.2.2.1 ∧ wfI e.2.2.2 := by
  intro e he
  obtain ⟨x, hx, rfl⟩ := List.mem_map.1 he
  obtain ⟨h1, _, h3, h4⟩ := h x hx
  exact ⟨h1, by have := flagJ_wf which x.2.1; unfold wfI idleJ; exact this, h3, h4⟩
theorem lig_idle (which : Bool) (p : PlanL) (acts comps ligs : List Nat) (hC : p.cls.length ≤ 40) (hR : p.rows.length ≤ 20) (hE : p.ents.length ≤ 40) {rs : List RP} {S : Nat} (hok : JOk (ligB (p.idleJ which) acts comps ligs) 40 rs S) (hN : needE (ligB (p.idleJ which) acts comps ligs) S ≤ p.ents.length) (ac co li : List UInt8) (l : List (Int × Int)) : (ligD (ligB (p.idleJ which) acts comps ligs) rs ac co li l).1.1 = l := by
  have hn : (p.idleJ which).n ≤ 11 := by unfold PlanL.n; omega
  have hm : (p.idleJ which).rows.length * (p.idleJ which).n ≤ 20 * 11 := Nat.mul_le_mul hR hn
  have hcl : (p.idleJ which).cls.length ≤ 40 := hC
  refine ligD_idle which hok.mok (fun j hj => ?_) ac co li l
  obtain ⟨e, he⟩ : ∃ e, p.ents[j]? = some e := ⟨_, List.getElem?_eq_getElem (by omega)⟩
  rw [ligB_flags (p.idleJ which) acts comps ligs (by omega) j (Go.Proofs.Ythehcbbdkiomnaa.idleJ which e) (by rw [PlanL.idleJ, List.getElem?_map, he]; rfl)]
  exact flagJ_idles which _
end Go.Proofs.Ythehcbbdkiomnaa
end
