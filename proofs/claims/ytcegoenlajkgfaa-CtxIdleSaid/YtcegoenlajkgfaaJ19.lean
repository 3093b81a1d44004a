/- Joined from: CList CAsk CTake. -/
import Derived.Test.YtcegoenlajkgfaaJ01
import Derived.Test.YtcegoenlajkgfaaJ18
import Derived.Test.YtcegoenlajkgfaaJ12
import Derived.Test.YtcegoenlajkgfaaJ17
import Derived.Test.YtcegoenlajkgfaaJ04
section

/- ctx.take: so many lookups whose places stand in a list. Conditions: as many bytes as the slice says; sizes. -/
namespace Go.Proofs.Ytcegoenlajkgfaa
open Go.RowKit Go.Lib

/-- A pointer is stored into the row. -/
theorem CLInv.stored {B : Nat} {vb : List UInt8} {glyphs n M g3 g7 bm go : Nat} {v3 v7 : Value} {qs : List (List RP)} {ps : List Nat} {w : World} (h : CLInv B vb glyphs n M g3 g7 bm go v3 v7 qs ps w) (hlt : ps.length < n) (g : Nat) (hg : LkG B vb glyphs w (num vb (4 * ps.length) 4 : Nat) g) :
    ∃ q, CLInv B vb glyphs n M g3 g7 bm go v3 v7 (qs ++ [q]) (ps ++ [g]) (w.setCell ⟨go, ps.length, none⟩ (ptrV (some g))) := by
  obtain ⟨q, fmt, k1, k2, k3⟩ := hg
  rw [Int.toNat_natCast] at k1 k2 k3
  obtain ⟨g0, cs, u, he, hB, hh, _, _, _, hs⟩ := row_at h.row ps.length (by omega)
  cases he
  have other : ∀ {k : Nat} {v : Value}, w.heap[k]? = some (.cells #[v] 69 (0, 0)) → (w.setCell ⟨go, ps.length, none⟩ (ptrV (some g))).heap[k]? = some (.cells #[v] 69 (0, 0)) := fun {k v} hk => (set_heap_other _ (by
    rintro rfl
    rw [hk] at hh
    injection hh with hh
    injection hh with _ h2 _
    exact absurd h2 (by decide))).trans hk
  have tab : ∀ {g fmt : Nat} {ps' : List PartL} {ns : List Nat}, TabIs B g fmt ps' ns w → TabIs B g fmt ps' ns (w.setCell ⟨go, ps.length, none⟩ (ptrV (some g))) := fun ht => ht.setOther hh (by decide) (by decide) (by decide) _
  have tab2 : ∀ {g2 fmt : Nat} {ps' : List PartL} {ns : List Nat}, TabIs B g2 fmt ps' ns w → TabIs B g2 fmt ps' ns (w.setCell ⟨go, ps.length, none⟩ (ptrV (some g))) := fun ht => ht.setOther hh (by decide) (by decide) (by decide) _
  obtain ⟨m, D, hm, ho, hsy⟩ := h.map
  refine ⟨q, by simp [h.len], other h.h3, other h.h7, ⟨m, D, hm, ?_, hsy.imp fun z g2 ⟨q2, f2, y1, y2, y3⟩ => ⟨q2, f2, y1, y2, tab2 y3⟩⟩, ?_, fun i q2 g2 h1 h2 => ?_⟩
  · obtain ⟨es, clock, e1, e2, e3, e4⟩ := ho
    exact ⟨es, clock, (set_heap_other _ (by
      rintro rfl
      rw [e1] at hh
      injection hh with hh
      cases hh)).trans e1, e2, e3, e4⟩
  · have := hs (ptrV (some g))
    rwa [rowP_set ps n g hlt] at this
  · rw [List.getElem?_append] at h1 h2
    rw [h.len] at h1
    split at h2
    · rename_i hi
      rw [if_pos hi] at h1
      exact ⟨(h.tabs i q2 g2 h1 h2).1, by obtain ⟨f2, ht⟩ := (h.tabs i q2 g2 h1 h2).2; exact ⟨f2, tab2 ht⟩⟩
    · rename_i hi
      rw [if_neg hi] at h1
      have e : i = ps.length := by
        have := (List.getElem?_eq_some_iff.1 h2).1
        simp at this
        omega
      subst e
      rw [Nat.sub_self] at h1 h2
      simp at h1 h2
      subst h1 h2
      exact ⟨⟨k1, k2⟩, fmt, tab2 k3⟩
/-- A lookup is put into the map. -/
theorem CLInv.mapped {B : Nat} {vb : List UInt8} {glyphs n M g3 g7 bm go m z g : Nat} {v3 v7 : Value} {qs : List (List RP)} {ps : List Nat} {D : DataW Unit} {w w' : World} (h : CLInv B vb glyphs n M g3 g7 bm go v3 v7 qs ps w) (hBm : B ≤ bm) (ho : w.ownsMap Try.prog 3 ptrR bm m D) (hm : m ≤ M) (hs : SaysP D (LkG B vb glyphs w)) (hg : LkG B vb glyphs w (z : Nat) g)
    (ho' : w'.ownsMap Try.prog 3 ptrR bm (m + 1) (D.put (kQ (z : Nat)) (ptrD (some g)))) (hgr : w.grownBy w' (some bm)) : CLInv B vb glyphs n (M + 1) g3 g7 bm go v3 v7 qs ps w' := by
  have hk : KeepC B (fun _ _ => False) w w' := kept_map ho hgr hBm
  have tab : ∀ {g2 fmt : Nat} {ps' : List PartL} {ns : List Nat}, TabIs B g2 fmt ps' ns w → TabIs B g2 fmt ps' ns w' := fun ht => ht.keepC hk (fun _ h => h) (fun _ h => h) (fun h => h)
  have lkg : ∀ z g, LkG B vb glyphs w z g → LkG B vb glyphs w' z g := fun z g ⟨q, f, y1, y2, y3⟩ => ⟨q, f, y1, y2, tab y3⟩
  exact ⟨h.len, (hk.kept _ _ _ _ h.h3 (fun h => h)).trans h.h3, (hk.kept _ _ _ _ h.h7 (fun h => h)).trans h.h7, ⟨m + 1, _, by omega, ho', (hs.put hg).imp lkg⟩, hk.owns h.row (fun _ h => h),
    fun i q g h1 h2 => ⟨(h.tabs i q g h1 h2).1, by obtain ⟨fmt, ht⟩ := (h.tabs i q g h1 h2).2; exact ⟨fmt, tab ht⟩⟩⟩
theorem map_made (w : World) (b : Nat) (hb : b = w.heap.size) : (w.alloc (.map #[] 0)).ownsMap Try.prog 3 ptrR b 0 (.map []) := by subst hb; exact World.ownsMap_made _ _ _ _
theorem LkG.below {B : Nat} {vb : List UInt8} {glyphs : Nat} {z : Int} {g : Nat} {w w' : World} (h : LkG B vb glyphs w z g) (hb : Below w.heap.size w w') : LkG B vb glyphs w' z g := by
  obtain ⟨q, f, y1, y2, y3⟩ := h
  exact ⟨q, f, y1, y2, y3.below hb⟩
theorem LkG.mapped {B bm m : Nat} {vb : List UInt8} {glyphs : Nat} {z : Int} {g : Nat} {D : DataW Unit} {w w' : World} (h : LkG B vb glyphs w z g) (hBm : B ≤ bm) (ho : w.ownsMap Try.prog 3 ptrR bm m D) (hgr : w.grownBy w' (some bm)) : LkG B vb glyphs w' z g := by
  obtain ⟨q, f, y1, y2, y3⟩ := h
  have hk : KeepC B (fun _ _ => False) w w' := kept_map ho hgr hBm
  exact ⟨q, f, y1, y2, y3.keepC hk (fun _ h => h) (fun _ h => h) (fun h => h)⟩
theorem CLInv.more {B : Nat} {vb : List UInt8} {glyphs n M M' g3 g7 bm go : Nat} {v3 v7 : Value} {qs : List (List RP)} {ps : List Nat} {w : World} (h : CLInv B vb glyphs n M g3 g7 bm go v3 v7 qs ps w) (hM : M ≤ M') : CLInv B vb glyphs n M' g3 g7 bm go v3 v7 qs ps w := by
  obtain ⟨m, D, hm, ho, hs⟩ := h.map
  exact ⟨h.len, h.h3, h.h7, ⟨m, D, Nat.le_trans hm hM, ho, hs⟩, h.row, h.tabs⟩
/-- Lookups in a row of memory. -/
structure TabsAt (B : Nat) (vb : List UInt8) (qs : List (List RP)) (ps : List Nat) (w : World) : Prop where
  len : ps.length = qs.length
  each : ∀ i q g, qs[i]? = some q → ps[i]? = some g → ∃ fmt, TabIs B g fmt (tabR (vb.drop (num vb (4 * i) 4)) q).1 (tabR (vb.drop (num vb (4 * i) 4)) q).2 w
def CTakeIs (vb : List UInt8) (glyphs n : Nat) (w : World) (e : Ending) (w' : World) : Prop :=
  ((∃ qs ps go, ListOk vb glyphs n qs ∧ e = .returned (.slice (some ⟨go, 0, none⟩) n n) ∧ w'.ownsRow w.heap.size 123 1 (.slice (some ⟨go, 0, none⟩) n n) n (ps.map fun g => ptrV (some g)) ∧ TabsAt w.heap.size vb qs ps w') ∨
   ((∀ qs, ¬ ListOk vb glyphs n qs) ∧ e = .panicked thrown)) ∧ Below w.heap.size w w'
set_option maxRecDepth 100000 in
set_option maxHeartbeats 6400000 in
theorem ctlist_any (a : Option Addr) (N c : Nat) (vb : List UInt8) (glyphs n : Nat) (zg zn : Int) (hzg : zg = (glyphs : Nat)) (hzn : zn = (n : Nat)) (w : World) (hh : Has w a (bytesV vb)) (hbl : vb.length = N) (hnc : N ≤ c) (hc : c ≤ maxLen) (hg1 : 1 ≤ glyphs) (hg2 : glyphs ≤ 65535) (hn : n ≤ 65535) :
    Calls Try.prog 59 #[.agg #[.slice a N c], .int .i64 zn, .int .i64 zg] w (CTakeIs vb glyphs n w) := by
  have hAC := allocC
  have hAF := allocF
  have hmm := @run_makeMap Try.prog
  subst hzg hzn
  have hcm := hc
  unfold maxLen at hcm
  have HH := Lib.hid hh
  have HL := Lib.hid hbl
  clear hh hbl
  by_cases hfit : n * 4 ≤ N
  case neg =>
    have HNO := Lib.hid (show ∀ qs, ¬ ListOk vb glyphs n qs from fun qs ho => hfit (by have := ho.at_; rw [HL.out] at this; omega))
    have HB1 := Lib.hid (fun W => rows_zb a N c 0 n 4 0 (n : Nat) 4 rfl rfl rfl W hn (by decide) (by decide) (by rintro ⟨_, hy⟩; rw [Nat.sub_zero, Nat.le_div_iff_mul_le (by decide)] at hy; exact hfit hy) hnc hc)
    clear hfit
    go_enter Try.func59, Try.ntmps59
    go_wp2_with (first | (go_at_call 83; (with_reducible refine (HB1.out _).mono ?_); rintro e w1 ⟨rfl, hb1⟩; have h1c := bc hb1; have h1f := bf hb1; have h1z := hb1.size; try simp only [World.size_alloc, World.size_drew] at h1z))
    exact ⟨rfl, .inr ⟨HNO.out, rfl⟩, blw⟩
  obtain ⟨P, hP⟩ : ∃ P, n * 4 = P := ⟨_, rfl⟩
  have hrw := fun W => rows_z a N c 0 n 4 P 0 (n : Nat) 4 rfl rfl rfl W hP (by omega) (.inr ((Nat.le_div_iff_mul_le (show 0 < 4 by decide)).2 (by omega))) (by omega) (by decide) hnc hc
  rw [adv_zero, Nat.sub_zero] at hrw
  have HRW := Lib.hid hrw
  have HPP := Lib.hid hP
  have hPN : P ≤ N := by omega
  clear hrw hP hfit
  go_enter Try.func59, Try.ntmps59
  go_wp2_with (first | (go_at_call 83; (with_reducible refine (HRW.out _).mono ?_); rintro e w1 ⟨rfl, hb1⟩; have h1c := bc hb1; have h1f := bf hb1; have h1z := hb1.size; try simp only [World.size_alloc, World.size_drew] at h1z) | (at_make; refine wpMake _ rfl _ _ 97 rfl w.heap.size 123 (.pointer none) 1 8 Try.underlying97 info_ptr n rfl rfl (by omega) (by unfold maxLen; omega) (by first | omega | (simp; omega)) ?_; intro w4 hown hb4; have HO4 := Lib.hid hown; have HB4 := Lib.hid hb4; clear hown hb4))
  have hzv := HB4.out.size
  simp only [World.size_alloc] at hzv
  have ho4 := HO4.out
  simp only [World.size_alloc] at ho4
  have hb1w : Below w.heap.size w w1 := blw
  have HBW := Lib.hid (hb1w.trans ((balloc (brefl w1) _).mono hb1w.size) |>.trans ((balloc (brefl _) (.map #[] 0)).mono (by simp only [World.size_alloc]; omega)) |>.trans (HB4.out.mono (by simp only [World.size_alloc]; omega)))
  have HST := Lib.hid (show CLInv w.heap.size vb glyphs n 0 w.heap.size w1.heap.size (w1.heap.size + 1) (w1.heap.size + 1 + 1) (.slice a N c) (.slice a P c) [] [] w4 from
    ⟨rfl, (HB4.out.block _ (by simp only [World.size_alloc]; omega)).trans ((heap_push _ _ _).trans (by rw [if_neg (by simp only [World.size_alloc]; omega), heap_push, if_neg (by omega)]; exact (hb1.block _ (by simp)).trans ((heap_push _ _ _).trans (if_pos rfl)))),
     (HB4.out.block _ (by simp only [World.size_alloc]; omega)).trans ((heap_push _ _ _).trans (by rw [if_neg (by simp only [World.size_alloc]; omega), heap_push, if_pos rfl])),
     ⟨0, .map [], Nat.le_refl _, map_below (map_made _ _ (by simp)) HB4.out, saysP_start _⟩,
     by rw [← made_ptr]; exact ho4, fun i q g h => by simp at h⟩)
  obtain ⟨go, hgo⟩ : ∃ go, go = w1.heap.size + 1 + 1 := ⟨_, rfl⟩
  obtain ⟨bm, hbm⟩ : ∃ bm, bm = w1.heap.size + 1 := ⟨_, rfl⟩
  have hst := HST.out
  have HRWZ := hzv
  rw [← hgo, ← hbm] at hst
  rw [← hgo, ← hbm]
  have HST := Lib.hid hst
  have hBm : w.heap.size ≤ bm := by have := hb1w.size; omega
  have hBm0 := hBm
  have hgoB : w.heap.size ≤ go := by have := hb1w.size; omega
  obtain ⟨g3, hg3⟩ : ∃ g3, g3 = w.heap.size := ⟨_, rfl⟩
  obtain ⟨g7, hg7⟩ : ∃ g7, g7 = w1.heap.size := ⟨_, rfl⟩
  obtain ⟨B, hB⟩ : ∃ B, B = w.heap.size := ⟨_, rfl⟩
  have hst := HST.out
  rw [← hg7] at hst
  rw [← hg7]
  have HST := Lib.hid (show CLInv B vb glyphs n 0 g3 g7 bm go (.slice a N c) (.slice a P c) [] [] w4 by rw [hB, hg3]; exact hst)
  have HBW := Lib.hid (show Below B w w4 by rw [hB]; exact HBW.out)
  have hBz : B ≤ w4.heap.size := by rw [hB]; exact HBW.out.size
  have HHB := Lib.hid (show ∀ W, Below B w W → Has W a (bytesV vb) from fun W hW => HH.out.below (by rw [← hB]; exact hW))
  have hBm5 : B ≤ bm := by rw [hB]; exact hBm
  have hgoB5 : B ≤ go := by rw [hB]; exact hgoB
  have hwB : B ≤ w.heap.size := by rw [hB]; exact Nat.le_refl _
  rw [show w.heap.size = g3 from hg3.symm]
  have HBE := Lib.hid hB
  clear hst hB hg3 hg7 hgo hbm hzv ho4 hb1w HRWZ HO4 HB4 hb1 h1c h1f h1z HRW
  go_wp2_with fail
  go_loopw [19] (fun i wr => ∃ (qs : List (List RP)) (ps : List Nat), ps.length ≤ n ∧ i = .int .i64 (ps.length : Nat) ∧ CLInv B vb glyphs n ps.length g3 g7 bm go (.slice a N c) (.slice a P c) qs ps wr ∧ Below B w wr) (fun i _ => n - (RowKit.intOf i).toNat)
  case atStart => exact ⟨[], [], Nat.zero_le _, rfl, HST.out, HBW.out⟩
  case round =>
    obtain ⟨qs, ps, hk, rfl, hi, hb⟩ := hrel
    rename World => wr
    have HB := Lib.hid hb
    obtain ⟨k, hkp⟩ : ∃ k, k = ps.length := ⟨_, rfl⟩
    have HKP := Lib.hid hkp
    rw [← hkp] at hk hi ⊢
    have HI := Lib.hid hi
    obtain ⟨m, D, hm, ho, hsy⟩ := hi.map
    have c3 := cell_of_heap hi.h3 0
    have c7 := cell_of_heap hi.h7 0
    simp only [List.getElem?_toArray, List.getElem?_cons_zero] at c3 c7
    have l3 := (Array.getElem?_eq_some_iff.1 hi.h3).1
    have l7 := (Array.getElem?_eq_some_iff.1 hi.h7).1
    have HOM := Lib.hid ho
    have HSY := Lib.hid hsy
    have hBr : B ≤ wr.heap.size := Nat.le_trans hwB hb.size
    clear hi hb ho hsy hkp
    by_cases hlt : k < n
    · obtain ⟨z, hz⟩ : ∃ z, num vb (4 * k) 4 = z := ⟨_, rfl⟩
      have hz4 := num4_lt vb (4 * k)
      have hPP := HPP.out
      have HU := Lib.hid (show ∀ W, Below B w W → Calls Try.prog 58 #[.agg #[.slice a P c], .int .i64 ((k : Int) * 4)] W fun e w' => e = .returned (.int .i64 (z : Nat)) ∧ Below W.heap.size W w' from fun W hW => by
        have := u32_z a P c (4 * k) ((k : Int) * 4) (by omega) (vb.take P) W (by have := (HHB.out W hW).take P; rwa [bytesV_take] at this) (by rw [List.length_take, HL.out]; omega) (by omega) (by omega) hc
        rwa [num_takeS vb P (4 * k) 4 (by omega), hz] at this)
      rw [hz] at hz4
      have HZ := Lib.hid hz
      clear hz hPP
      obtain ⟨o, ho1, ho2⟩ := HSY.out.2 (z : Nat)
      have hwf : wfQ (z : Nat) := wfQ_of (by omega) (by omega)
      have HU1 := Lib.hid (HU.out wr HB.out)
      have HZ4 := Lib.hid (show num vb (4 * ps.length) 4 = z from by rw [← HKP.out]; exact HZ.out)
      cases o with
      | some g =>
        have HLG := Lib.hid (ho2 g rfl)
        clear ho2 HU
        go_wp2_with (first
          | (go_at_call 58
             (with_reducible refine HU1.out.mono ?_)
             rintro e w2 ⟨rfl, hb2⟩
             have HI2 := Lib.hid (HI.out.below hb2)
             have HOM2 := Lib.hid (map_below HOM.out hb2)
             have HLG2 := Lib.hid (HLG.out.below hb2)
             have HB2 := Lib.hid (HB.out.trans (hb2.mono hBr))
             obtain ⟨g0, cs0, u0, he0, _, hh0, hc0, _, hf0, _⟩ := row_at HI2.out.row k (by omega)
             obtain rfl : go = g0 := by injection he0 with he0; injection he0
             have l0 := (Array.getElem?_eq_some_iff.1 hh0).1
             clear hb2 hh0 he0)
          | (at_lookup; refine wpLookP rfl _ _ _ rfl Try.underlying154 bm m D rfl HOM2.out (z : Nat) rfl hwf (some g) ho1 ?_; simp only [ptrV]))
        go_roundw
        case rel =>
          obtain ⟨q, hq⟩ := HI2.out.stored (by rw [← HKP.out]; exact hlt) g (by rw [HZ4.out]; exact HLG2.out)
          rw [← HKP.out] at hq
          exact ⟨qs ++ [q], ps ++ [g], by simp [← HKP.out]; omega, by simp [← HKP.out], by rw [show (ps ++ [g]).length = k + 1 by simp [← HKP.out]]; exact hq.more (by omega), HB2.out.setCell (p := ⟨go, k, none⟩) (by omega) _⟩
        case measure => simp only [RowKit.intOf]; omega
      | none =>
        have hr0 : ∀ qs, (∀ q, ¬ LkOk (vb.drop z) glyphs 2 q) ∨ ¬ z ≤ N → ¬ ListOk vb glyphs n qs := by
          intro qs hno ho
          obtain ⟨q, hq⟩ : ∃ q, qs[k]? = some q := ⟨_, List.getElem?_eq_getElem (by rw [ho.len]; exact hlt)⟩
          have := ho.each k q hq
          rw [HZ.out, HL.out] at this
          rcases hno with hno | hno
          · exact hno q this.2
          · exact hno this.1
        have HR0 := Lib.hid hr0
        clear ho2 HU hr0
        by_cases hzN : z ≤ N
        case neg =>
          have HRB := Lib.hid (fun W => rest_bad a N c (z : Nat) W (.inr (by omega)))
          have HNO := Lib.hid (fun qs => HR0.out qs (.inr hzN))
          clear hzN
          go_wp2_with (first
            | (go_at_call 58
               (with_reducible refine HU1.out.mono ?_)
               rintro e w2 ⟨rfl, hb2⟩
               have HI2 := Lib.hid (HI.out.below hb2)
               have HOM2 := Lib.hid (map_below HOM.out hb2)
               have HB2 := Lib.hid (HB.out.trans (hb2.mono hBr))
               have c32 := cell_of_heap HI2.out.h3 0
               simp only [List.getElem?_toArray, List.getElem?_cons_zero] at c32
               have l32 := (Array.getElem?_eq_some_iff.1 HI2.out.h3).1
               have hz2 := Nat.le_trans hwB HB2.out.size
               clear hb2)
            | (at_lookup; refine wpLookP rfl _ _ _ rfl Try.underlying154 bm m D rfl HOM2.out (z : Nat) rfl hwf none ho1 ?_; simp only [ptrV])
            | (go_at_call 57; (with_reducible refine (HRB.out _).mono ?_); rintro e w3 ⟨rfl, hb3⟩; have h3c := bc hb3; have h3f := bf hb3; have h3z := hb3.size; try simp only [World.size_alloc, World.size_drew] at h3z))
          exact ⟨rfl, .inr ⟨HNO.out, rfl⟩, HBE.out ▸ HB2.out.trans (hb3.mono (by omega))⟩
        have HRO := Lib.hid (fun W => rest_ok a N c z W hzN hnc hc)
        by_cases hok : ∃ q, LkOk (vb.drop z) glyphs 2 q
        case neg =>
          have HNO := Lib.hid (fun qs => HR0.out qs (.inl fun q hq => hok ⟨q, hq⟩))
          have HTK := Lib.hid (fun W (hW : Below B w W) => show Calls Try.prog 67 #[.agg #[.slice (adv a c z) (N - z) (c - z)], .int .i64 (glyphs : Nat), .int .i64 2] W fun e w' => e = .panicked thrown ∧ Below W.heap.size W w' from take_bad (adv a c z) (N - z) (c - z) (vb.drop z) glyphs 2 W (by have := (HHB.out W hW).adv c z (by rw [bytesV_length, HL.out]; exact hnc); rwa [bytesV_drop] at this) (by rw [List.length_drop, HL.out]) (by omega) (by omega) hg1 hg2 (.inl rfl) (fun q hq => hok ⟨q, hq⟩))
          clear hok
          go_wp2_with (first
            | (go_at_call 58
               (with_reducible refine HU1.out.mono ?_)
               rintro e w2 ⟨rfl, hb2⟩
               have HI2 := Lib.hid (HI.out.below hb2)
               have HOM2 := Lib.hid (map_below HOM.out hb2)
               have HB2 := Lib.hid (HB.out.trans (hb2.mono hBr))
               have HW2 := Lib.hid hb2
               have c32 := cell_of_heap HI2.out.h3 0
               simp only [List.getElem?_toArray, List.getElem?_cons_zero] at c32
               have l32 := (Array.getElem?_eq_some_iff.1 HI2.out.h3).1
               have hz2 := Nat.le_trans hwB HB2.out.size
               clear hb2)
            | (at_lookup; refine wpLookP rfl _ _ _ rfl Try.underlying154 bm m D rfl HOM2.out (z : Nat) rfl hwf none ho1 ?_; simp only [ptrV])
            | (go_at_call 57; (with_reducible refine (HRO.out _).mono ?_); rintro e w3 ⟨rfl, hb3⟩; have HB3 := Lib.hid (HB2.out.trans (hb3.mono hz2)); have hz3 := Nat.le_trans hwB HB3.out.size; have HW3 := Lib.hid hb3; clear hb3)
            | (go_at_call 67; (with_reducible refine (HTK.out _ HB3.out).mono ?_); rintro e w4 ⟨rfl, hb4⟩; have h4c := bc hb4; have h4f := bf hb4; have h4z := hb4.size; try simp only [World.size_alloc, World.size_drew] at h4z))
          exact ⟨rfl, .inr ⟨HNO.out, rfl⟩, HBE.out ▸ HB3.out.trans (hb4.mono hz3)⟩
        obtain ⟨q, hok⟩ := hok
        have HOK := Lib.hid hok
        have HTK := Lib.hid (fun W (hW : Below B w W) => show Calls Try.prog 67 #[.agg #[.slice (adv a c z) (N - z) (c - z)], .int .i64 (glyphs : Nat), .int .i64 2] W fun e w' => ∃ g, e = .returned (.pointer (some ⟨g, 0, none⟩)) ∧ TabIs W.heap.size g (num (vb.drop z) 0 2) (tabR (vb.drop z) q).1 (tabR (vb.drop z) q).2 w' ∧ Below W.heap.size W w' from take_ok (adv a c z) (N - z) (c - z) (vb.drop z) glyphs 2 q W (by have := (HHB.out W hW).adv c z (by rw [bytesV_length, HL.out]; exact hnc); rwa [bytesV_drop] at this) (by rw [List.length_drop, HL.out]) (by omega) (by omega) hg1 hg2 (.inl rfl) hok)
        clear hok
        go_wp2_with (first
            | (go_at_call 58
               (with_reducible refine HU1.out.mono ?_)
               rintro e w2 ⟨rfl, hb2⟩
               have HI2 := Lib.hid (HI.out.below hb2)
               have HOM2 := Lib.hid (map_below HOM.out hb2)
               have HB2 := Lib.hid (HB.out.trans (hb2.mono hBr))
               have HW2 := Lib.hid hb2
               have c32 := cell_of_heap HI2.out.h3 0
               simp only [List.getElem?_toArray, List.getElem?_cons_zero] at c32
               have l32 := (Array.getElem?_eq_some_iff.1 HI2.out.h3).1
               have hz2 := Nat.le_trans hwB HB2.out.size
               clear hb2)
            | (at_lookup; refine wpLookP rfl _ _ _ rfl Try.underlying154 bm m D rfl HOM2.out (z : Nat) rfl hwf none ho1 ?_; simp only [ptrV])
            | (go_at_call 57; (with_reducible refine (HRO.out _).mono ?_); rintro e w3 ⟨rfl, hb3⟩; have HB3 := Lib.hid (HB2.out.trans (hb3.mono hz2)); have hz3 := Nat.le_trans hwB HB3.out.size; have HW3 := Lib.hid hb3; clear hb3)
            | (go_at_call 67
               (with_reducible refine (HTK.out _ HB3.out).mono ?_)
               rintro e w4 ⟨g, rfl, hT, hb4⟩
               have hb24 := HW3.out.trans (hb4.mono HW3.out.size)
               have HI4 := Lib.hid (HI2.out.below hb24)
               have HOM4 := Lib.hid (map_below HOM2.out hb24)
               have HSY4 := Lib.hid (HSY.out.imp fun z g h => (h.below HW2.out).below hb24)
               have HLG4 := Lib.hid (show LkG B vb glyphs w4 (z : Nat) g from ⟨q, _, by rw [Int.toNat_natCast, HL.out]; exact hzN, by rw [Int.toNat_natCast]; exact HOK.out, by rw [Int.toNat_natCast]; exact hT.monoM hz3⟩)
               have HB4 := Lib.hid (HB2.out.trans (hb24.mono hz2))
               clear hT hb4 hb24)
            | (at_mapUpdate
               refine wpList_mapUpdate_own _ rfl _ _ _ 154 rfl 3 123 lawQ Try.underlying154 ptrR bm m D rfl HOM4.out (by unfold maxLen; omega) _ _ (kQ (z : Nat)) rfl rfl (keyQ hwf) (ptrD (some g)) [] (ptrR_mk (some g)) ?_
               intro w5 ho5 hg5
               have HI5 := Lib.hid (HI4.out.mapped hBm5 HOM4.out hm HSY4.out HLG4.out ho5 hg5)
               have HLG5 := Lib.hid (HLG4.out.mapped hBm5 HOM4.out hg5)
               have HOM5 := Lib.hid ho5
               have HB5 := Lib.hid (HB4.out.grown hg5 (Nat.le_trans hwB HB4.out.size) (fun k hk => by injection hk with hk; omega))
               obtain ⟨g0, cs0, u0, he0, _, hh0, hc0, _, hf0, _⟩ := row_at HI5.out.row k (by omega)
               obtain rfl : go = g0 := by injection he0 with he0; injection he0
               have l0 := (Array.getElem?_eq_some_iff.1 hh0).1
               clear ho5 hg5 hh0 he0)
            | (at_lookup; refine wpLookP rfl _ _ _ rfl Try.underlying154 bm (m + 1) _ rfl HOM5.out (z : Nat) rfl hwf (some g) (HSY.out.at _ _) ?_; simp only [ptrV]))
        go_roundw
        case rel =>
          obtain ⟨q, hq⟩ := HI5.out.stored (by rw [← HKP.out]; exact hlt) g (by rw [HZ4.out]; exact HLG5.out)
          rw [← HKP.out] at hq
          exact ⟨qs ++ [q], ps ++ [g], by simp [← HKP.out]; omega, by simp [← HKP.out], by rw [show (ps ++ [g]).length = k + 1 by simp [← HKP.out]]; exact hq, HB5.out.setCell (p := ⟨go, k, none⟩) (by omega) _⟩
        case measure => simp only [RowKit.intOf]; omega
    · obtain rfl : n = k := by omega
      have HQ := Lib.hid (show ListOk vb glyphs n qs from ⟨by have := HPP.out; rw [HL.out]; omega, by rw [HI.out.len, ← HKP.out], fun i q hq => by
        have hlt := (List.getElem?_eq_some_iff.1 hq).1
        rw [HI.out.len] at hlt
        exact (HI.out.tabs i q _ hq (List.getElem?_eq_getElem hlt)).1⟩)
      go_wp2_with fail
      go_ret
      refine ⟨.inl ⟨qs, ps, go, HQ.out, rfl, ?_, ⟨HI.out.len.symm, fun i q g h1 h2 => ?_⟩⟩, HBE.out ▸ HB.out⟩
      · have := HI.out.row
        rw [rowP_all ps n HKP.out.symm] at this
        exact HBE.out ▸ this
      · have := (HI.out.tabs i q g h1 h2).2
        exact HBE.out ▸ this
end Go.Proofs.Ytcegoenlajkgfaa
end
section

/- ctx.asked: how many lookups some entries ask for. Conditions: entries as their bytes tell them. -/
namespace Go.Proofs.Ytcegoenlajkgfaa
open Go.RowKit Go.Lib

theorem ent_at {w : World} {a : Option Addr} {vb : List UInt8} {k n : Nat} (h : Has w a (entsV vb k n)) {j : Nat} (hj : j < n) : ∃ g o, a = some ⟨g, o, none⟩ ∧ g < w.heap.size ∧
    w.cell? ⟨g, o + j * 4, none⟩ = some (.int .i64 ((entX vb k j).1 : Nat)) ∧ w.cell? ⟨g, o + j * 4 + 1, none⟩ = some (.int .i64 ((entX vb k j).2.1 : Nat)) ∧ w.cell? ⟨g, o + j * 4 + 2, none⟩ = some (.int .i64 ((entX vb k j).2.2.1 : Nat)) ∧ w.cell? ⟨g, o + j * 4 + 3, none⟩ = some (.int .i64 ((entX vb k j).2.2.2 : Nat)) := by
  have hlen : 0 < (entsV vb k n).length := by
    have := entsV_get vb k n j 0 hj (by omega)
    rcases Nat.eq_zero_or_pos (entsV vb k n).length with h0 | h0
    · rw [List.getElem?_eq_none (by omega)] at this
      simp [entV] at this
    · exact h0
  obtain ⟨g, o, ha, hg, hx⟩ := h.get hlen
  have e0 : (entsV vb k n)[j * 4]? = some (.int .i64 ((entX vb k j).1 : Nat)) := by have := entsV_get vb k n j 0 hj (by omega); rw [Nat.add_zero] at this; exact this
  have e1 : (entsV vb k n)[j * 4 + 1]? = some (.int .i64 ((entX vb k j).2.1 : Nat)) := entsV_get vb k n j 1 hj (by omega)
  have e2 : (entsV vb k n)[j * 4 + 2]? = some (.int .i64 ((entX vb k j).2.2.1 : Nat)) := entsV_get vb k n j 2 hj (by omega)
  have e3 : (entsV vb k n)[j * 4 + 3]? = some (.int .i64 ((entX vb k j).2.2.2 : Nat)) := entsV_get vb k n j 3 hj (by omega)
  exact ⟨g, o, ha, hg, hx _ _ e0, by rw [Nat.add_assoc]; exact hx _ _ e1, by rw [Nat.add_assoc]; exact hx _ _ e2, by rw [Nat.add_assoc]; exact hx _ _ e3⟩
set_option maxRecDepth 100000 in
set_option maxHeartbeats 3200000 in
theorem asked_any (a : Option Addr) (n c : Nat) (bs : List UInt8) (w : World) (h : Has w a (entsV (bs.drop (num bs 12 4)) 2 n)) (hn : n ≤ 65536) :
    Calls Try.prog 60 #[.slice a n c] w fun e w' => e = .returned (.int .i64 (cntC bs n : Nat)) ∧ Below w.heap.size w w' := by
  have hAC := allocC
  have hAF := allocF
  have HH := Lib.hid h
  clear h
  go_enter Try.func60, Try.ntmps60
  go_wp2_with fail
  go_loopw [3, 8] (fun m i wr => ∃ j : Nat, j ≤ n ∧ m = .int .i64 (cntC bs j : Nat) ∧ i = .int .i64 (j : Nat) ∧ Below w.heap.size w wr) (fun _ i _ => n - (RowKit.intOf i).toNat)
  case atStart => exact ⟨0, Nat.zero_le _, rfl, rfl, Below.refl _ _⟩
  case round =>
    obtain ⟨j, hj, rfl, rfl, hb⟩ := hrel
    rename World => wr
    have HB := Lib.hid hb
    clear hb
    by_cases hlt : j < n
    · obtain ⟨g, o, rfl, hg, c0, c1, c2, c3⟩ := ent_at (HH.out.below HB.out) hlt
      have hle := entX_le (bs.drop (num bs 12 4)) 2 j
      have hcn : cntC bs (j + 1) = max (max (cntC bs j) (cwX (entX (bs.drop (num bs 12 4)) 2 j).2.2.1)) (cwX (entX (bs.drop (num bs 12 4)) 2 j).2.2.2) := rfl
      have hc65 := cntC_65 bs j
      generalize entX (bs.drop (num bs 12 4)) 2 j = E at *
      obtain ⟨e0, F, A, Bv⟩ := E
      simp only at c0 c1 c2 c3 hle hcn
      obtain ⟨_, _, hA6, hB6⟩ := hle
      have HCN := Lib.hid hcn
      clear hcn
      generalize cntC bs j = c0 at *
      by_cases hA : A = 65535
      · have dA : ((A : Int) == 65535) = true := by simp; omega
        have dA2 : ((A : Int) != 65535) = false := by simp; omega
        have hcA : cwX A = 0 := by unfold cwX; rw [if_pos hA]
        by_cases hB : Bv = 65535
        · have dB : ((Bv : Int) == 65535) = true := by simp; omega
          have dB2 : ((Bv : Int) != 65535) = false := by simp; omega
          have hcB : cwX Bv = 0 := by unfold cwX; rw [if_pos hB]
          have HE := Lib.hid (show cntC bs (j + 1) = c0 by have := HCN.out; omega)
          clear hA hB hcA hcB HCN
          go_wp2_with fail
          go_roundw
          case rel => exact ⟨j + 1, hlt, by rw [HE.out], by go_num, HB.out.trans (Below.mono (balloc (brefl _) _) HB.out.size)⟩
          case measure => simp only [RowKit.intOf]; omega
        · have dB : ((Bv : Int) == 65535) = false := by simp; omega
          have dB2 : ((Bv : Int) != 65535) = true := by simp; omega
          have hcB : cwX Bv = Bv + 1 := by unfold cwX; rw [if_neg hB]
          have HE := Lib.hid (show cntC bs (j + 1) = max c0 (Bv + 1) by have := HCN.out; omega)
          clear hA hB hcA hcB HCN
          go_wp2_with fail
          go_roundw
          case rel => exact ⟨j + 1, hlt, by rw [HE.out]; congr 1; try (split <;> omega), by go_num, HB.out.trans (Below.mono (balloc (brefl _) _) HB.out.size)⟩
          case measure => simp only [RowKit.intOf]; omega
      · have dA : ((A : Int) == 65535) = false := by simp; omega
        have dA2 : ((A : Int) != 65535) = true := by simp; omega
        have hcA : cwX A = A + 1 := by unfold cwX; rw [if_neg hA]
        by_cases hB : Bv = 65535
        · have dB : ((Bv : Int) == 65535) = true := by simp; omega
          have dB2 : ((Bv : Int) != 65535) = false := by simp; omega
          have hcB : cwX Bv = 0 := by unfold cwX; rw [if_pos hB]
          have HE := Lib.hid (show cntC bs (j + 1) = max c0 (A + 1) by have := HCN.out; omega)
          clear hA hB hcA hcB HCN
          go_wp2_with fail
          go_roundw
          case rel => exact ⟨j + 1, hlt, by rw [HE.out]; congr 1; try (split <;> omega), by go_num, HB.out.trans (Below.mono (balloc (brefl _) _) HB.out.size)⟩
          case measure => simp only [RowKit.intOf]; omega
        · have dB : ((Bv : Int) == 65535) = false := by simp; omega
          have dB2 : ((Bv : Int) != 65535) = true := by simp; omega
          have hcB : cwX Bv = Bv + 1 := by unfold cwX; rw [if_neg hB]
          have HE := Lib.hid (show cntC bs (j + 1) = max (max c0 (A + 1)) (Bv + 1) by have := HCN.out; omega)
          clear hA hB hcA hcB HCN
          go_wp2_with fail
          go_roundw
          case rel => exact ⟨j + 1, hlt, by rw [HE.out]; congr 1; try (split <;> (try split) <;> omega), by go_num, HB.out.trans (Below.mono (balloc (brefl _) _) HB.out.size)⟩
          case measure => simp only [RowKit.intOf]; omega
    · obtain rfl : n = j := by omega
      go_wp2_with fail
      go_ret
      exact ⟨rfl, HB.out⟩
end Go.Proofs.Ytcegoenlajkgfaa
end
section

/- ctx.Take: such a subtable that a View begins with, or it throws. Conditions: as many bytes as the slice says. -/
namespace Go.Proofs.Ytcegoenlajkgfaa
open Go.RowKit Go.Lib

theorem vb_off (bs : List UInt8) (i : Nat) : (bs.drop (num bs 16 4)).drop (num (bs.drop (num bs 16 4)) (4 * i) 4) = bs.drop (offC bs i) := by
  rw [num_dropS, List.drop_drop]
  rfl
theorem list_of_cok {bs : List UInt8} {glyphs : Nat} {rs : List RP} {S : Nat} {qs : List (List RP)} (h : COk bs glyphs rs S qs) : ListOk (bs.drop (num bs 16 4)) glyphs (cntC bs (needE bs S)) qs := by
  have hat := h.at_
  refine ⟨?_, h.len, fun i q hq => ?_⟩
  · rw [List.length_drop]
    rcases Nat.eq_zero_or_pos (cntC bs (needE bs S)) with h0 | h0
    · omega
    · obtain ⟨q, hq⟩ : ∃ q, qs[cntC bs (needE bs S) - 1]? = some q := ⟨_, List.getElem?_eq_getElem (by rw [h.len]; omega)⟩
      have := (h.each _ _ hq).at_
      omega
  · have hk := h.each i q hq
    have ho := hk.off
    refine ⟨?_, by rw [vb_off]; exact hk.ok⟩
    rw [num_dropS, List.length_drop]
    unfold offC at ho
    omega
theorem cok_of_list {bs : List UInt8} {glyphs : Nat} {rs : List RP} {S : Nat} {qs : List (List RP)} (hm : MOk bs glyphs 2 rs S) (h20 : 20 ≤ bs.length) (hat : num bs 16 4 ≤ bs.length) (h : ListOk (bs.drop (num bs 16 4)) glyphs (cntC bs (needE bs S)) qs) : COk bs glyphs rs S qs := by
  refine ⟨hm, h20, hat, h.len, fun i q hq => ?_⟩
  have hlt := (List.getElem?_eq_some_iff.1 hq).1
  have hl := h.at_
  obtain ⟨h1, h2⟩ := h.each i q hq
  rw [List.length_drop] at hl h1
  rw [num_dropS] at h1
  rw [vb_off] at h2
  rw [h.len] at hlt
  refine ⟨by omega, ?_, h2⟩
  unfold offC
  omega
/-- Such a subtable in memory. -/
structure CIs (B gt : Nat) (bs : List UInt8) (rs : List RP) (S : Nat) (qs : List (List RP)) (w : World) : Prop where
  is : ∃ (g go : Nat) (ps : List Nat), w.heap[gt]? = some (.cells #[.pointer (some ⟨g, 0, none⟩), .slice (some ⟨go, 0, none⟩) qs.length qs.length] 99 (0, 0)) ∧ MIs B g bs 2 rs S w ∧
    w.ownsRow B 123 1 (.slice (some ⟨go, 0, none⟩) qs.length qs.length) qs.length (ps.map fun g => ptrV (some g)) ∧ ps.length = qs.length ∧ ∀ i q g, qs[i]? = some q → ps[i]? = some g → ∃ fmt, TabIs B g fmt (tabR (bs.drop (offC bs i)) q).1 (tabR (bs.drop (offC bs i)) q).2 w
  ge : B ≤ gt
theorem CIs.below {B gt : Nat} {bs : List UInt8} {rs : List RP} {S : Nat} {qs : List (List RP)} {w w' : World} (h : CIs B gt bs rs S qs w) (hb : Below w.heap.size w w') : CIs B gt bs rs S qs w' := by
  obtain ⟨g, go, ps, h1, h2, h3, h4, h5⟩ := h.is
  exact ⟨⟨g, go, ps, (hb.block gt (Array.getElem?_eq_some_iff.1 h1).1).trans h1, h2.below hb, owns_below h3 hb (Nat.le_refl _), h4, fun i q g hi hp => by obtain ⟨f, h⟩ := h5 i q g hi hp; exact ⟨f, h.below hb⟩⟩, h.ge⟩
theorem CIs.mono {B B' gt : Nat} {bs : List UInt8} {rs : List RP} {S : Nat} {qs : List (List RP)} {w : World} (h : CIs B gt bs rs S qs w) (hB : B' ≤ B) : CIs B' gt bs rs S qs w := by
  obtain ⟨g, go, ps, h1, h2, h3, h4, h5⟩ := h.is
  exact ⟨⟨g, go, ps, h1, h2.mono hB, owns_mono h3 hB, h4, fun i q g hi hp => by obtain ⟨f, h⟩ := h5 i q g hi hp; exact ⟨f, h.monoM hB⟩⟩, Nat.le_trans hB h.ge⟩
def CTkIs (bs : List UInt8) (glyphs : Nat) (w : World) (e : Ending) (w' : World) : Prop :=
  ((∃ rs S qs gt, COk bs glyphs rs S qs ∧ e = .returned (.pointer (some ⟨gt, 0, none⟩)) ∧ CIs w.heap.size gt bs rs S qs w') ∨ ((∀ rs S qs, ¬ COk bs glyphs rs S qs) ∧ e = .panicked thrown)) ∧ Below w.heap.size w w'
theorem set1_new {w0 w1 : World} {x0 v0 : Value} {t : TypeId} (h : Below (w0.alloc (.cells #[x0] t)).heap.size (w0.alloc (.cells #[x0] t)) w1) : (w1.setCell ⟨w0.heap.size, 0, none⟩ v0).heap[w0.heap.size]? = some (.cells #[v0] t (0, 0)) := by
  have h1 : w1.heap[w0.heap.size]? = some (.cells #[x0] t (0, 0)) := (h.block w0.heap.size (by simp)).trans (by rw [heap_push, if_pos rfl])
  simp [World.setCell, Array.getElem?_modify, h1]
theorem set1_newd {w0 w1 : World} {x0 v0 : Value} {t : TypeId} (h : Below (w0.alloc (.cells #[x0] t)).drew.heap.size (w0.alloc (.cells #[x0] t)).drew w1) : (w1.setCell ⟨w0.heap.size, 0, none⟩ v0).heap[w0.heap.size]? = some (.cells #[v0] t (0, 0)) := set1_new ((Below.refl _ _).drew.trans h)
set_option maxRecDepth 100000 in
set_option maxHeartbeats 6400000 in
theorem ctake_any (a : Option Addr) (n c : Nat) (bs : List UInt8) (glyphs : Nat) (zg : Int) (hzg : zg = (glyphs : Nat)) (w : World) (hh : Has w a (bytesV bs)) (hbl : bs.length = n) (hnc : n ≤ c) (hc : c ≤ maxLen) (hg1 : 1 ≤ glyphs) (hg2 : glyphs ≤ 65535) :
    Calls Try.prog 26 #[.agg #[.slice a n c], .int .i64 zg] w (CTkIs bs glyphs w) := by
  have hAC := allocC
  have hAF := allocF
  subst hzg
  have HH := Lib.hid hh
  have HL := Lib.hid hbl
  have HUB := Lib.hid (fun (z : Int) (hz : ¬ (0 ≤ z ∧ z + 4 ≤ (n : Int))) W => u32_bad a n c z W hz hnc hc)
  have HU := Lib.hid (fun (j : Nat) (z : Int) (hz : z = (j : Nat)) (W : World) (hW : Below w.heap.size w W) (hj : j + 4 ≤ n) => u32_z a n c j z hz bs W (hh.below hW) hbl hj hnc hc)
  have HRS := Lib.hid (fun (j : Nat) (hj : j ≤ n) W => rest_ok a n c j W hj hnc hc)
  have HRB := Lib.hid (fun (j : Nat) (hj : n < j) W => rest_bad a n c (j : Nat) W (.inr (by omega)))
  clear hh hbl
  by_cases hmo : ∃ rs S, MOk bs glyphs 2 rs S
  case neg =>
    have HNO := Lib.hid (show ∀ rs S qs, ¬ COk bs glyphs rs S qs from fun rs S qs ho => hmo ⟨rs, S, ho.mok⟩)
    have HTB := Lib.hid (fun W (hW : Below w.heap.size w W) => show Calls Try.prog 56 #[.agg #[.slice a n c], .int .i64 (glyphs : Nat), .int .i64 2] W fun e w' => e = .panicked thrown ∧ Below W.heap.size W w' from mtake_bad a n c bs glyphs 2 W (HH.out.below hW) HL.out hnc hc hg1 hg2 (by decide) (fun rs S h => hmo ⟨rs, S, h⟩))
    clear hmo
    go_enter Try.func26, Try.ntmps26
    go_wp2_with (first | (go_at_call 56; (with_reducible refine (HTB.out _ (by exact blw)).mono ?_); rintro e w1 ⟨rfl, hb1⟩; have h1c := bc hb1; have h1f := bf hb1; have h1z := hb1.size; try simp only [World.size_alloc, World.size_drew] at h1z))
    exact ⟨rfl, .inr ⟨HNO.out, rfl⟩, blw⟩
  obtain ⟨rs, S, hmo⟩ := hmo
  have HMO := Lib.hid hmo
  have HTM := Lib.hid (fun W (hW : Below w.heap.size w W) => show Calls Try.prog 56 #[.agg #[.slice a n c], .int .i64 (glyphs : Nat), .int .i64 2] W fun e w' => ∃ g, e = .returned (.pointer (some ⟨g, 0, none⟩)) ∧ MIs W.heap.size g bs 2 rs S w' ∧ Below W.heap.size W w' from mtake_ok a n c bs glyphs 2 rs S W (HH.out.below hW) HL.out hnc hc hg1 hg2 (by decide) hmo)
  clear hmo
  go_enter Try.func26, Try.ntmps26
  go_wp2_with (first | (go_at_call 56; (with_reducible refine (HTM.out _ (by exact blw)).mono ?_); rintro e w1 ⟨g, rfl, hM, hb1⟩; have HM1 := Lib.hid hM; have HW1 := Lib.hid (show Below w.heap.size w w1 from by exact blw); have h1z := hb1.size; have c2 := (hb1.block w.heap.size (by simp)).trans (show (w.alloc (.cells #[.slice a n c] 69)).heap[w.heap.size]? = some (.cells #[.slice a n c] 69 (0, 0)) from by rw [heap_push, if_pos rfl]); simp only [World.size_alloc] at h1z; clear hM hb1))
  have Z2 := Lib.hid c2
  have q2 := cell_of_heap c2 0
  simp only [List.getElem?_toArray, List.getElem?_cons_zero] at q2
  have hg2w : w.heap.size < w1.heap.size := by omega
  clear c2 HTM
  by_cases h20 : 20 ≤ n
  case neg =>
    have HNO := Lib.hid (show ∀ rs S qs, ¬ COk bs glyphs rs S qs from fun rs S qs ho => h20 (by have := ho.l20; rw [HL.out] at this; exact this))
    have HB1 := Lib.hid (HUB.out 16 (by omega))
    refine wp_region_tree (.step 0 (.step 1 (.two 2 (.two 3 (.step 4 (.step 5 .nil)) 4 (.step 3 (.step 5 .nil))) 4 (.step 2 (.step 3 (.step 5 .nil)))))) (by kernel_rfl) (by kernel_rfl) (by kernel_rfl) (by kernel_rfl) (by intro _ _ d_ _ _ h_; cases d_ <;> first | exact h_ | (dsimp +zetaDelta only at h_ ⊢; exact h_)) (fun w' => ∃ p : Wld w1 [], w' = p.val) (wld_start _ _) ?_
    have hG_ := @wldC w1
    (refine tree_quiet gtA (by rfl) (by rfl) (fun K_ hK_ => ?_); go_big_quiet_op; refine hK_ _ ?_; clear hK_ K_)
    (refine tree_quiet gtA (by rfl) (by rfl) (fun K_ hK_ => ?_); go_big_quiet_op; refine hK_ _ ?_; clear hK_ K_)
    refine tree_two gtA gtA (by rfl) (by rfl) (fun K_ hK_ => ?_) (fun K_ hK_ => ?_)
    · have HK_ := Lib.hid hK_; clear hK_; go_wp2_with ((go_at_call 58; (with_reducible refine (HB1.out _).mono ?_); rintro e wa ⟨rfl, hba⟩; have hac := bc hba; have haf := bf hba; have haz := hba.size; try simp only [World.size_alloc, World.size_drew] at haz)); exact ⟨rfl, .inr ⟨HNO.out, rfl⟩, HW1.out.trans (Below.mono (w := w1) (by exact blw) HW1.out.size)⟩
    · have HK_ := Lib.hid hK_; clear hK_; go_wp2_with ((go_at_call 58; (with_reducible refine (HB1.out _).mono ?_); rintro e wa ⟨rfl, hba⟩; have hac := bc hba; have haf := bf hba; have haz := hba.size; try simp only [World.size_alloc, World.size_drew] at haz)); refine HK_.out _ _ (wld_ofA) ?_; clear HK_
      (refine tree_run gtA (by rfl) (by rfl) (fun K_ hK_ => ?_); have HK_ := Lib.hid hK_; clear hK_; go_wp2_with ((go_at_call 58; (with_reducible refine (HB1.out _).mono ?_); rintro e wa ⟨rfl, hba⟩; have hac := bc hba; have haf := bf hba; have haz := hba.size; try simp only [World.size_alloc, World.size_drew] at haz)); exact ⟨rfl, .inr ⟨HNO.out, rfl⟩, HW1.out.trans (Below.mono (w := w1) (by exact blw) HW1.out.size)⟩)
  have HU16 := Lib.hid (fun W hW => HU.out 16 16 rfl W hW h20)
  have hP16 := num4_lt bs 16
  obtain ⟨P, hP⟩ : ∃ P, P = num bs 16 4 := ⟨_, rfl⟩
  rw [← hP] at HU16 hP16
  have HP := Lib.hid hP
  clear hP
  by_cases hfP : P ≤ n
  case neg =>
    have HNO := Lib.hid (show ∀ rs S qs, ¬ COk bs glyphs rs S qs from fun rs S qs ho => hfP (by have := ho.at_; rw [HL.out, ← HP.out] at this; exact this))
    have HB1 := Lib.hid (HRB.out P (by omega))
    refine wp_region_tree (.step 0 (.step 1 (.two 2 (.two 3 (.step 4 (.step 5 .nil)) 4 (.step 3 (.step 5 .nil))) 4 (.step 2 (.step 3 (.step 5 .nil)))))) (by kernel_rfl) (by kernel_rfl) (by kernel_rfl) (by kernel_rfl) (by intro _ _ d_ _ _ h_; cases d_ <;> first | exact h_ | (dsimp +zetaDelta only at h_ ⊢; exact h_)) (fun w' => ∃ p : Wld w1 [], w' = p.val) (wld_start _ _) ?_
    have hG_ := @wldC w1
    (refine tree_quiet gtA (by rfl) (by rfl) (fun K_ hK_ => ?_); go_big_quiet_op; refine hK_ _ ?_; clear hK_ K_)
    (refine tree_quiet gtA (by rfl) (by rfl) (fun K_ hK_ => ?_); go_big_quiet_op; refine hK_ _ ?_; clear hK_ K_)
    refine tree_two gtA gtA (by rfl) (by rfl) (fun K_ hK_ => ?_) (fun K_ hK_ => ?_)
    · have HK_ := Lib.hid hK_; clear hK_; go_wp2_with (first | (go_at_call 58; (with_reducible refine (HU16.out _ (HW1.out.trans (Below.mono (w := w1) (by exact blw) HW1.out.size))).mono ?_); rintro e wa ⟨rfl, hba⟩; have hac := bc hba; have haf := bf hba; have haz := hba.size; try simp only [World.size_alloc, World.size_drew] at haz) | (go_at_call 57; (with_reducible refine (HB1.out _).mono ?_); rintro e wb ⟨rfl, hbb⟩; have hbc := bc hbb; have hbf := bf hbb; have hbz := hbb.size; try simp only [World.size_alloc, World.size_drew] at hbz)); refine HK_.out _ _ (wld_ofA) ?_; clear HK_
      refine tree_two gtA gtA (by rfl) (by rfl) (fun K_ hK_ => ?_) (fun K_ hK_ => ?_)
      · have HK_ := Lib.hid hK_; clear hK_; go_wp2_with (first | (go_at_call 58; (with_reducible refine (HU16.out _ (HW1.out.trans (Below.mono (w := w1) (by exact blw) HW1.out.size))).mono ?_); rintro e wa ⟨rfl, hba⟩; have hac := bc hba; have haf := bf hba; have haz := hba.size; try simp only [World.size_alloc, World.size_drew] at haz) | (go_at_call 57; (with_reducible refine (HB1.out _).mono ?_); rintro e wb ⟨rfl, hbb⟩; have hbc := bc hbb; have hbf := bf hbb; have hbz := hbb.size; try simp only [World.size_alloc, World.size_drew] at hbz)); exact ⟨rfl, .inr ⟨HNO.out, rfl⟩, HW1.out.trans (Below.mono (w := w1) (by exact blw) HW1.out.size)⟩
      · have HK_ := Lib.hid hK_; clear hK_; go_wp2_with (first | (go_at_call 58; (with_reducible refine (HU16.out _ (HW1.out.trans (Below.mono (w := w1) (by exact blw) HW1.out.size))).mono ?_); rintro e wa ⟨rfl, hba⟩; have hac := bc hba; have haf := bf hba; have haz := hba.size; try simp only [World.size_alloc, World.size_drew] at haz) | (go_at_call 57; (with_reducible refine (HB1.out _).mono ?_); rintro e wb ⟨rfl, hbb⟩; have hbc := bc hbb; have hbf := bf hbb; have hbz := hbb.size; try simp only [World.size_alloc, World.size_drew] at hbz)); refine HK_.out _ _ (wld_ofA) ?_; clear HK_
        (refine tree_run gtA (by rfl) (by rfl) (fun K_ hK_ => ?_); have HK_ := Lib.hid hK_; clear hK_; go_wp2_with (first | (go_at_call 58; (with_reducible refine (HU16.out _ (HW1.out.trans (Below.mono (w := w1) (by exact blw) HW1.out.size))).mono ?_); rintro e wa ⟨rfl, hba⟩; have hac := bc hba; have haf := bf hba; have haz := hba.size; try simp only [World.size_alloc, World.size_drew] at haz) | (go_at_call 57; (with_reducible refine (HB1.out _).mono ?_); rintro e wb ⟨rfl, hbb⟩; have hbc := bc hbb; have hbf := bf hbb; have hbz := hbb.size; try simp only [World.size_alloc, World.size_drew] at hbz)); exact ⟨rfl, .inr ⟨HNO.out, rfl⟩, HW1.out.trans (Below.mono (w := w1) (by exact blw) HW1.out.size)⟩)
    · have HK_ := Lib.hid hK_; clear hK_; go_wp2_with (first | (go_at_call 58; (with_reducible refine (HU16.out _ (HW1.out.trans (Below.mono (w := w1) (by exact blw) HW1.out.size))).mono ?_); rintro e wa ⟨rfl, hba⟩; have hac := bc hba; have haf := bf hba; have haz := hba.size; try simp only [World.size_alloc, World.size_drew] at haz) | (go_at_call 57; (with_reducible refine (HB1.out _).mono ?_); rintro e wb ⟨rfl, hbb⟩; have hbc := bc hbb; have hbf := bf hbb; have hbz := hbb.size; try simp only [World.size_alloc, World.size_drew] at hbz)); refine HK_.out _ _ (wld_ofA) ?_; clear HK_
      (refine tree_run gtA (by rfl) (by rfl) (fun K_ hK_ => ?_); have HK_ := Lib.hid hK_; clear hK_; go_wp2_with (first | (go_at_call 58; (with_reducible refine (HU16.out _ (HW1.out.trans (Below.mono (w := w1) (by exact blw) HW1.out.size))).mono ?_); rintro e wa ⟨rfl, hba⟩; have hac := bc hba; have haf := bf hba; have haz := hba.size; try simp only [World.size_alloc, World.size_drew] at haz) | (go_at_call 57; (with_reducible refine (HB1.out _).mono ?_); rintro e wb ⟨rfl, hbb⟩; have hbc := bc hbb; have hbf := bf hbb; have hbz := hbb.size; try simp only [World.size_alloc, World.size_drew] at hbz)); refine HK_.out _ _ (wld_ofA) ?_; clear HK_)
      (refine tree_run gtA (by rfl) (by rfl) (fun K_ hK_ => ?_); have HK_ := Lib.hid hK_; clear hK_; go_wp2_with (first | (go_at_call 58; (with_reducible refine (HU16.out _ (HW1.out.trans (Below.mono (w := w1) (by exact blw) HW1.out.size))).mono ?_); rintro e wa ⟨rfl, hba⟩; have hac := bc hba; have haf := bf hba; have haz := hba.size; try simp only [World.size_alloc, World.size_drew] at haz) | (go_at_call 57; (with_reducible refine (HB1.out _).mono ?_); rintro e wb ⟨rfl, hbb⟩; have hbc := bc hbb; have hbf := bf hbb; have hbz := hbb.size; try simp only [World.size_alloc, World.size_drew] at hbz)); exact ⟨rfl, .inr ⟨HNO.out, rfl⟩, HW1.out.trans (Below.mono (w := w1) (by exact blw) HW1.out.size)⟩)
  have HRP := Lib.hid (HRS.out P hfP)
  apply cutP (R := ∀ (g_ : Nat) (x_ : Nat → Value) (W_ : World), (fun g6 V6 => Below w1.heap.size w1 V6 ∧ w1.heap.size ≤ g6 ∧ V6.heap[g6]? = some (.cells #[.slice (adv a c P) (n - P) (c - P)] 69 (0, 0))) g_ W_ → _)
  · intro hfin_
    refine wp_region_tree (.step 0 (.step 1 (.two 2 (.two 3 (.step 4 (.step 5 .nil)) 4 (.step 3 (.step 5 .nil))) 4 (.step 2 (.step 3 (.step 5 .nil)))))) (by kernel_rfl) (by kernel_rfl) (by kernel_rfl) (by kernel_rfl) (by intro _ _ d_ _ _ h_; cases d_ <;> first | exact h_ | (dsimp +zetaDelta only at h_ ⊢; exact h_)) (fun w' => ∃ p : Wld w1 [], w' = p.val) (wld_start _ _) ?_
    have hG_ := @wldC w1
    (refine tree_quiet gtA (by rfl) (by rfl) (fun K_ hK_ => ?_); go_big_quiet_op; refine hK_ _ ?_; clear hK_ K_)
    (refine tree_quiet gtA (by rfl) (by rfl) (fun K_ hK_ => ?_); go_big_quiet_op; refine hK_ _ ?_; clear hK_ K_)
    refine tree_two gtA gtA (by rfl) (by rfl) (fun K_ hK_ => ?_) (fun K_ hK_ => ?_)
    · have HK_ := Lib.hid hK_; clear hK_; go_wp2_with (first | (go_at_call 58; (with_reducible refine (HU16.out _ (HW1.out.trans (Below.mono (w := w1) (by exact blw) HW1.out.size))).mono ?_); rintro e wa ⟨rfl, hba⟩; have hac := bc hba; have haf := bf hba; have haz := hba.size; try simp only [World.size_alloc, World.size_drew] at haz) | (go_at_call 57; (with_reducible refine (HRP.out _).mono ?_); rintro e wb ⟨rfl, hbb⟩; have hbc := bc hbb; have hbf := bf hbb; have hbz := hbb.size; try simp only [World.size_alloc, World.size_drew] at hbz)); refine HK_.out _ _ (wld_ofA) ?_; clear HK_
      refine tree_two gtA gtA (by rfl) (by rfl) (fun K_ hK_ => ?_) (fun K_ hK_ => ?_)
      · have HK_ := Lib.hid hK_; clear hK_; go_wp2_with (first | (go_at_call 58; (with_reducible refine (HU16.out _ (HW1.out.trans (Below.mono (w := w1) (by exact blw) HW1.out.size))).mono ?_); rintro e wa ⟨rfl, hba⟩; have hac := bc hba; have haf := bf hba; have haz := hba.size; try simp only [World.size_alloc, World.size_drew] at haz) | (go_at_call 57; (with_reducible refine (HRP.out _).mono ?_); rintro e wb ⟨rfl, hbb⟩; have hbc := bc hbb; have hbf := bf hbb; have hbz := hbb.size; try simp only [World.size_alloc, World.size_drew] at hbz)); refine HK_.out _ _ (wld_ofA) ?_; clear HK_
        (refine tree_run gtA (by rfl) (by rfl) (fun K_ hK_ => ?_); have HK_ := Lib.hid hK_; clear hK_; go_wp2_with (first | (go_at_call 58; (with_reducible refine (HU16.out _ (HW1.out.trans (Below.mono (w := w1) (by exact blw) HW1.out.size))).mono ?_); rintro e wa ⟨rfl, hba⟩; have hac := bc hba; have haf := bf hba; have haz := hba.size; try simp only [World.size_alloc, World.size_drew] at haz) | (go_at_call 57; (with_reducible refine (HRP.out _).mono ?_); rintro e wb ⟨rfl, hbb⟩; have hbc := bc hbb; have hbf := bf hbb; have hbz := hbb.size; try simp only [World.size_alloc, World.size_drew] at hbz)); refine HK_.out _ _ (wld_ofA) ?_; clear HK_)
        (refine tree_run gtA (by rfl) (by rfl) (fun K_ hK_ => ?_); have HK_ := Lib.hid hK_; clear hK_; go_wp2_with (first | (go_at_call 58; (with_reducible refine (HU16.out _ (HW1.out.trans (Below.mono (w := w1) (by exact blw) HW1.out.size))).mono ?_); rintro e wa ⟨rfl, hba⟩; have hac := bc hba; have haf := bf hba; have haz := hba.size; try simp only [World.size_alloc, World.size_drew] at haz) | (go_at_call 57; (with_reducible refine (HRP.out _).mono ?_); rintro e wb ⟨rfl, hbb⟩; have hbc := bc hbb; have hbf := bf hbb; have hbz := hbb.size; try simp only [World.size_alloc, World.size_drew] at hbz)); refine HK_.out _ _ (wld_ofA) ?_; clear HK_)
        refine tree_nil ?_
        refine leaf_any 6 [] (fun g6 V6 => Below w1.heap.size w1 V6 ∧ w1.heap.size ≤ g6 ∧ V6.heap[g6]? = some (.cells #[.slice (adv a c P) (n - P) (c - P)] 69 (0, 0))) _ (by rfl) (by first | (simp only [blank, List.setIfInBounds_toArray, List.set_cons_succ, List.set_cons_zero]; rfl) | simp only [blank, List.setIfInBounds_toArray, List.set_cons_succ, List.set_cons_zero]) (hfin_ ()) ?_
        (refine ⟨blw, ?_, ?_⟩ <;> first | omega | (simp only [World.size_setCell, World.size_alloc, World.size_drew]; omega) | (with_reducible exact set1_new (by assumption)) | (with_reducible exact set1_new (bthen (by assumption) (by assumption))) | (with_reducible exact set1_newd (by assumption)) | (with_reducible exact set1_newd (bthen (by assumption) (by assumption))) | (rw [heap_push, if_pos rfl]; done))
      · have HK_ := Lib.hid hK_; clear hK_; go_wp2_with (first | (go_at_call 58; (with_reducible refine (HU16.out _ (HW1.out.trans (Below.mono (w := w1) (by exact blw) HW1.out.size))).mono ?_); rintro e wa ⟨rfl, hba⟩; have hac := bc hba; have haf := bf hba; have haz := hba.size; try simp only [World.size_alloc, World.size_drew] at haz) | (go_at_call 57; (with_reducible refine (HRP.out _).mono ?_); rintro e wb ⟨rfl, hbb⟩; have hbc := bc hbb; have hbf := bf hbb; have hbz := hbb.size; try simp only [World.size_alloc, World.size_drew] at hbz)); refine HK_.out _ _ (wld_ofA) ?_; clear HK_
        (refine tree_run gtA (by rfl) (by rfl) (fun K_ hK_ => ?_); have HK_ := Lib.hid hK_; clear hK_; go_wp2_with (first | (go_at_call 58; (with_reducible refine (HU16.out _ (HW1.out.trans (Below.mono (w := w1) (by exact blw) HW1.out.size))).mono ?_); rintro e wa ⟨rfl, hba⟩; have hac := bc hba; have haf := bf hba; have haz := hba.size; try simp only [World.size_alloc, World.size_drew] at haz) | (go_at_call 57; (with_reducible refine (HRP.out _).mono ?_); rintro e wb ⟨rfl, hbb⟩; have hbc := bc hbb; have hbf := bf hbb; have hbz := hbb.size; try simp only [World.size_alloc, World.size_drew] at hbz)); refine HK_.out _ _ (wld_ofA) ?_; clear HK_)
        (refine tree_run gtA (by rfl) (by rfl) (fun K_ hK_ => ?_); have HK_ := Lib.hid hK_; clear hK_; go_wp2_with (first | (go_at_call 58; (with_reducible refine (HU16.out _ (HW1.out.trans (Below.mono (w := w1) (by exact blw) HW1.out.size))).mono ?_); rintro e wa ⟨rfl, hba⟩; have hac := bc hba; have haf := bf hba; have haz := hba.size; try simp only [World.size_alloc, World.size_drew] at haz) | (go_at_call 57; (with_reducible refine (HRP.out _).mono ?_); rintro e wb ⟨rfl, hbb⟩; have hbc := bc hbb; have hbf := bf hbb; have hbz := hbb.size; try simp only [World.size_alloc, World.size_drew] at hbz)); refine HK_.out _ _ (wld_ofA) ?_; clear HK_)
        refine tree_nil ?_
        refine leaf_any 6 [] (fun g6 V6 => Below w1.heap.size w1 V6 ∧ w1.heap.size ≤ g6 ∧ V6.heap[g6]? = some (.cells #[.slice (adv a c P) (n - P) (c - P)] 69 (0, 0))) _ (by rfl) (by first | (simp only [blank, List.setIfInBounds_toArray, List.set_cons_succ, List.set_cons_zero]; rfl) | simp only [blank, List.setIfInBounds_toArray, List.set_cons_succ, List.set_cons_zero]) (hfin_ ()) ?_
        (refine ⟨blw, ?_, ?_⟩ <;> first | omega | (simp only [World.size_setCell, World.size_alloc, World.size_drew]; omega) | (with_reducible exact set1_new (by assumption)) | (with_reducible exact set1_new (bthen (by assumption) (by assumption))) | (with_reducible exact set1_newd (by assumption)) | (with_reducible exact set1_newd (bthen (by assumption) (by assumption))) | (rw [heap_push, if_pos rfl]; done))
    · have HK_ := Lib.hid hK_; clear hK_; go_wp2_with (first | (go_at_call 58; (with_reducible refine (HU16.out _ (HW1.out.trans (Below.mono (w := w1) (by exact blw) HW1.out.size))).mono ?_); rintro e wa ⟨rfl, hba⟩; have hac := bc hba; have haf := bf hba; have haz := hba.size; try simp only [World.size_alloc, World.size_drew] at haz) | (go_at_call 57; (with_reducible refine (HRP.out _).mono ?_); rintro e wb ⟨rfl, hbb⟩; have hbc := bc hbb; have hbf := bf hbb; have hbz := hbb.size; try simp only [World.size_alloc, World.size_drew] at hbz)); refine HK_.out _ _ (wld_ofA) ?_; clear HK_
      (refine tree_run gtA (by rfl) (by rfl) (fun K_ hK_ => ?_); have HK_ := Lib.hid hK_; clear hK_; go_wp2_with (first | (go_at_call 58; (with_reducible refine (HU16.out _ (HW1.out.trans (Below.mono (w := w1) (by exact blw) HW1.out.size))).mono ?_); rintro e wa ⟨rfl, hba⟩; have hac := bc hba; have haf := bf hba; have haz := hba.size; try simp only [World.size_alloc, World.size_drew] at haz) | (go_at_call 57; (with_reducible refine (HRP.out _).mono ?_); rintro e wb ⟨rfl, hbb⟩; have hbc := bc hbb; have hbf := bf hbb; have hbz := hbb.size; try simp only [World.size_alloc, World.size_drew] at hbz)); refine HK_.out _ _ (wld_ofA) ?_; clear HK_)
      (refine tree_run gtA (by rfl) (by rfl) (fun K_ hK_ => ?_); have HK_ := Lib.hid hK_; clear hK_; go_wp2_with (first | (go_at_call 58; (with_reducible refine (HU16.out _ (HW1.out.trans (Below.mono (w := w1) (by exact blw) HW1.out.size))).mono ?_); rintro e wa ⟨rfl, hba⟩; have hac := bc hba; have haf := bf hba; have haz := hba.size; try simp only [World.size_alloc, World.size_drew] at haz) | (go_at_call 57; (with_reducible refine (HRP.out _).mono ?_); rintro e wb ⟨rfl, hbb⟩; have hbc := bc hbb; have hbf := bf hbb; have hbz := hbb.size; try simp only [World.size_alloc, World.size_drew] at hbz)); refine HK_.out _ _ (wld_ofA) ?_; clear HK_)
      (refine tree_run gtA (by rfl) (by rfl) (fun K_ hK_ => ?_); have HK_ := Lib.hid hK_; clear hK_; go_wp2_with (first | (go_at_call 58; (with_reducible refine (HU16.out _ (HW1.out.trans (Below.mono (w := w1) (by exact blw) HW1.out.size))).mono ?_); rintro e wa ⟨rfl, hba⟩; have hac := bc hba; have haf := bf hba; have haz := hba.size; try simp only [World.size_alloc, World.size_drew] at haz) | (go_at_call 57; (with_reducible refine (HRP.out _).mono ?_); rintro e wb ⟨rfl, hbb⟩; have hbc := bc hbb; have hbf := bf hbb; have hbz := hbb.size; try simp only [World.size_alloc, World.size_drew] at hbz)); refine HK_.out _ _ (wld_ofA) ?_; clear HK_)
      refine tree_nil ?_
      refine leaf_any 6 [] (fun g6 V6 => Below w1.heap.size w1 V6 ∧ w1.heap.size ≤ g6 ∧ V6.heap[g6]? = some (.cells #[.slice (adv a c P) (n - P) (c - P)] 69 (0, 0))) _ (by rfl) (by first | (simp only [blank, List.setIfInBounds_toArray, List.set_cons_succ, List.set_cons_zero]; rfl) | simp only [blank, List.setIfInBounds_toArray, List.set_cons_succ, List.set_cons_zero]) (hfin_ ()) ?_
      (refine ⟨blw, ?_, ?_⟩ <;> first | omega | (simp only [World.size_setCell, World.size_alloc, World.size_drew]; omega) | (with_reducible exact set1_new (by assumption)) | (with_reducible exact set1_new (bthen (by assumption) (by assumption))) | (with_reducible exact set1_newd (by assumption)) | (with_reducible exact set1_newd (bthen (by assumption) (by assumption))) | (rw [heap_push, if_pos rfl]; done))
  intro g6 x6 V ⟨b6, hg6, h6⟩
  simp only [fill, List.setIfInBounds_toArray, List.set_cons_succ, List.set_cons_zero]
  have HBV := Lib.hid (HW1.out.trans (b6.mono HW1.out.size))
  have HMV := Lib.hid (HM1.out.below b6)
  have l6 := (Array.getElem?_eq_some_iff.1 h6).1
  have q6 := cell_of_heap h6 0
  simp only [List.getElem?_toArray, List.getElem?_cons_zero] at q6
  have hzV : w.heap.size + 1 ≤ V.heap.size := by have := b6.size; omega
  clear b6 h6 q2 hg2w
  go_wp2_with fail
  have HEN := Lib.hid (fun W (hW : Below V.heap.size V W) => entries_any _ g bs 2 rs S W (HMV.out.below hW))
  obtain ⟨N, hN⟩ : ∃ N, N = needE bs S := ⟨_, rfl⟩
  have hN6 := needE_le bs S
  rw [← hN] at HEN hN6
  have HN := Lib.hid hN
  have HAS := Lib.hid (fun (a : Option Addr) (c : Nat) W (h : Has W a (entsV (bs.drop (num bs 12 4)) 2 N)) => asked_any a N c bs W h hN6)
  obtain ⟨M, hM⟩ : ∃ M, M = cntC bs N := ⟨_, rfl⟩
  have hM6 := cntC_65 bs N
  rw [← hM] at HAS hM6
  have HM := Lib.hid hM
  clear hN hM
  have HCL := Lib.hid (fun W (hW : Below V.heap.size V W) => ctlist_any (adv a c P) (n - P) (c - P) (bs.drop P) glyphs M (glyphs : Nat) (M : Nat) rfl rfl W (by have := (HH.out.below (HBV.out.trans (hW.mono (Nat.le_trans (Nat.le_succ _) hzV)))).adv c P (by rw [bytesV_length, HL.out]; exact hnc); rwa [bytesV_drop] at this) (by rw [List.length_drop, HL.out]) (by omega) (Nat.le_trans (Nat.sub_le _ _) hc) hg1 hg2 hM6)
  by_cases hok : ∃ qs, ListOk (bs.drop P) glyphs M qs
  case neg =>
    have HNO := Lib.hid (show ∀ rs S qs, ¬ COk bs glyphs rs S qs from fun rs' S' qs ho => hok ⟨qs, by
      obtain ⟨rfl, rfl⟩ := ho.mok.det HMO.out
      have := list_of_cok ho
      rw [← HP.out, ← HN.out, ← HM.out] at this
      exact this⟩)
    have HCB := Lib.hid (fun W hW => (HCL.out W hW).mono (R' := fun e w' => e = .panicked thrown ∧ Below W.heap.size W w') (by
      rintro e w' ⟨(⟨qs, _, _, h, _⟩ | ⟨_, h⟩), hb⟩
      · exact absurd ⟨qs, h⟩ hok
      · exact ⟨h, hb⟩))
    clear hok
    refine wp_region_tree (.step 0 (.step 1 (.step 2 (.step 5 (.step 3 (.step 4 (.step 6 (.step 7 (.step 8 (.step 9 .nil)))))))))) (by kernel_rfl) (by kernel_rfl) (by kernel_rfl) (by kernel_rfl) (by intro _ _ d_ _ _ h_; cases d_ <;> first | exact h_ | (dsimp +zetaDelta only at h_ ⊢; exact h_)) (fun w' => ∃ p : Wld V [], w' = p.val) (wld_start _ _) ?_
    have hG_ := @wldC V
    (refine tree_quiet gtA (by rfl) (by rfl) (fun K_ hK_ => ?_); go_big_quiet_op; refine hK_ _ ?_; clear hK_ K_)
    (refine tree_quiet gtA (by rfl) (by rfl) (fun K_ hK_ => ?_); go_big_quiet_op; refine hK_ _ ?_; clear hK_ K_)
    (refine tree_quiet gtA (by rfl) (by rfl) (fun K_ hK_ => ?_); go_big_quiet_op; refine hK_ _ ?_; clear hK_ K_)
    (refine tree_quiet gtA (by rfl) (by rfl) (fun K_ hK_ => ?_); go_big_quiet_op; refine hK_ _ ?_; clear hK_ K_)
    (refine tree_run gtA (by rfl) (by rfl) (fun K_ hK_ => ?_); have HK_ := Lib.hid hK_; clear hK_; go_wp2_with (first | (go_at_call 61; (with_reducible refine (HEN.out _ (by exact blw)).mono ?_); rintro e wa ⟨aE, cE, rfl, ho, _, _, _, hba⟩; have HHE := Lib.hid (has_of_owns ho); clear ho) | (go_at_call 60; (with_reducible refine (HAS.out _ _ _ (HHE.out.below (by exact blw))).mono ?_); rintro e wb ⟨rfl, hbb⟩) | (go_at_call 59; (with_reducible refine (HCB.out _ (by exact blw)).mono ?_); rintro e wd ⟨rfl, hbd⟩; have hdc := bc hbd; have hdf := bf hbd; have hdz := hbd.size; try simp only [World.size_alloc, World.size_drew] at hdz)); refine HK_.out _ _ (wld_ofA) ?_; clear HK_)
    (refine tree_run gtA (by rfl) (by rfl) (fun K_ hK_ => ?_); have HK_ := Lib.hid hK_; clear hK_; go_wp2_with (first | (go_at_call 61; (with_reducible refine (HEN.out _ (by exact blw)).mono ?_); rintro e wa ⟨aE, cE, rfl, ho, _, _, _, hba⟩; have HHE := Lib.hid (has_of_owns ho); clear ho) | (go_at_call 60; (with_reducible refine (HAS.out _ _ _ (HHE.out.below (by exact blw))).mono ?_); rintro e wb ⟨rfl, hbb⟩) | (go_at_call 59; (with_reducible refine (HCB.out _ (by exact blw)).mono ?_); rintro e wd ⟨rfl, hbd⟩; have hdc := bc hbd; have hdf := bf hbd; have hdz := hbd.size; try simp only [World.size_alloc, World.size_drew] at hdz)); refine HK_.out _ _ (wld_ofA) ?_; clear HK_)
    (refine tree_run gtA (by rfl) (by rfl) (fun K_ hK_ => ?_); have HK_ := Lib.hid hK_; clear hK_; go_wp2_with (first | (go_at_call 61; (with_reducible refine (HEN.out _ (by exact blw)).mono ?_); rintro e wa ⟨aE, cE, rfl, ho, _, _, _, hba⟩; have HHE := Lib.hid (has_of_owns ho); clear ho) | (go_at_call 60; (with_reducible refine (HAS.out _ _ _ (HHE.out.below (by exact blw))).mono ?_); rintro e wb ⟨rfl, hbb⟩) | (go_at_call 59; (with_reducible refine (HCB.out _ (by exact blw)).mono ?_); rintro e wd ⟨rfl, hbd⟩; have hdc := bc hbd; have hdf := bf hbd; have hdz := hbd.size; try simp only [World.size_alloc, World.size_drew] at hdz)); exact ⟨rfl, .inr ⟨HNO.out, rfl⟩, HBV.out.trans (Below.mono (w := V) (by exact blw) HBV.out.size)⟩)
  obtain ⟨qs, hok⟩ := hok
  have HCK := Lib.hid (show COk bs glyphs rs S qs from cok_of_list HMO.out (by rw [HL.out]; exact h20) (by rw [← HP.out, HL.out]; exact hfP) (by rw [← HP.out, ← HN.out, ← HM.out]; exact hok))
  have HCG := Lib.hid (fun W hW => (HCL.out W hW).mono (R' := fun e w' => ∃ ps go, e = .returned (.slice (some ⟨go, 0, none⟩) M M) ∧ w'.ownsRow W.heap.size 123 1 (.slice (some ⟨go, 0, none⟩) M M) M (ps.map fun g => ptrV (some g)) ∧ TabsAt W.heap.size (bs.drop P) qs ps w' ∧ Below W.heap.size W w') (by
    rintro e w' ⟨(⟨qs', ps, go, h1, h2, h3, h4⟩ | ⟨h, _⟩), hb⟩
    · have e1 : qs' = qs := List.ext_getElem (h1.len.trans hok.len.symm) fun i hi hj => (h1.each i _ (List.getElem?_eq_getElem hi)).2.det (hok.each i _ (List.getElem?_eq_getElem hj)).2
      subst e1
      exact ⟨ps, go, h2, h3, h4, hb⟩
    · exact absurd hok (h qs)))
  have HQL := Lib.hid (show qs.length = M from hok.len)
  clear hok HCL
  refine wp_region_tree (.step 0 (.step 1 (.step 2 (.step 5 (.step 3 (.step 4 (.step 6 (.step 7 (.step 8 (.step 9 .nil)))))))))) (by kernel_rfl) (by kernel_rfl) (by kernel_rfl) (by kernel_rfl) (by intro _ _ d_ _ _ h_; cases d_ <;> first | exact h_ | (dsimp +zetaDelta only at h_ ⊢; exact h_)) (fun w' => ∃ p : Wld V [], w' = p.val) (wld_start _ _) ?_
  have hG_ := @wldC V
  (refine tree_quiet gtA (by rfl) (by rfl) (fun K_ hK_ => ?_); go_big_quiet_op; refine hK_ _ ?_; clear hK_ K_)
  (refine tree_quiet gtA (by rfl) (by rfl) (fun K_ hK_ => ?_); go_big_quiet_op; refine hK_ _ ?_; clear hK_ K_)
  (refine tree_quiet gtA (by rfl) (by rfl) (fun K_ hK_ => ?_); go_big_quiet_op; refine hK_ _ ?_; clear hK_ K_)
  (refine tree_quiet gtA (by rfl) (by rfl) (fun K_ hK_ => ?_); go_big_quiet_op; refine hK_ _ ?_; clear hK_ K_)
  (refine tree_run gtA (by rfl) (by rfl) (fun K_ hK_ => ?_); have HK_ := Lib.hid hK_; clear hK_; go_wp2_with (first | (go_at_call 61; (with_reducible refine (HEN.out _ (by exact blw)).mono ?_); rintro e wa ⟨aE, cE, rfl, ho, _, _, _, hba⟩; have HHE := Lib.hid (has_of_owns ho); clear ho) | (go_at_call 60; (with_reducible refine (HAS.out _ _ _ (HHE.out.below (by exact blw))).mono ?_); rintro e wb ⟨rfl, hbb⟩) | (go_at_call 59; (with_reducible refine (HCG.out _ (by exact blw)).mono ?_); rintro e wd ⟨ps, go, rfl, hown, htab, hbd⟩; have HOW := Lib.hid hown; have HTB := Lib.hid htab; clear hown htab)); refine HK_.out _ _ (wld_ofA) ?_; clear HK_)
  (refine tree_run gtA (by rfl) (by rfl) (fun K_ hK_ => ?_); have HK_ := Lib.hid hK_; clear hK_; go_wp2_with (first | (go_at_call 61; (with_reducible refine (HEN.out _ (by exact blw)).mono ?_); rintro e wa ⟨aE, cE, rfl, ho, _, _, _, hba⟩; have HHE := Lib.hid (has_of_owns ho); clear ho) | (go_at_call 60; (with_reducible refine (HAS.out _ _ _ (HHE.out.below (by exact blw))).mono ?_); rintro e wb ⟨rfl, hbb⟩) | (go_at_call 59; (with_reducible refine (HCG.out _ (by exact blw)).mono ?_); rintro e wd ⟨ps, go, rfl, hown, htab, hbd⟩; have HOW := Lib.hid hown; have HTB := Lib.hid htab; clear hown htab)); refine HK_.out _ _ (wld_ofA) ?_; clear HK_)
  (refine tree_run gtA (by rfl) (by rfl) (fun K_ hK_ => ?_); have HK_ := Lib.hid hK_; clear hK_; go_wp2_with (first | (go_at_call 61; (with_reducible refine (HEN.out _ (by exact blw)).mono ?_); rintro e wa ⟨aE, cE, rfl, ho, _, _, _, hba⟩; have HHE := Lib.hid (has_of_owns ho); clear ho) | (go_at_call 60; (with_reducible refine (HAS.out _ _ _ (HHE.out.below (by exact blw))).mono ?_); rintro e wb ⟨rfl, hbb⟩) | (go_at_call 59; (with_reducible refine (HCG.out _ (by exact blw)).mono ?_); rintro e wd ⟨ps, go, rfl, hown, htab, hbd⟩; have HOW := Lib.hid hown; have HTB := Lib.hid htab; clear hown htab)); refine HK_.out _ _ (wld_ofA) ?_; clear HK_)
  (refine tree_quiet gtA (by rfl) (by rfl) (fun K_ hK_ => ?_); go_big_quiet_op; refine hK_ _ ?_; clear hK_ K_)
  (refine tree_run gtA (by rfl) (by rfl) (fun K_ hK_ => ?_); have HK_ := Lib.hid hK_; clear hK_; go_wp2_with (first | (go_at_call 61; (with_reducible refine (HEN.out _ (by exact blw)).mono ?_); rintro e wa ⟨aE, cE, rfl, ho, _, _, _, hba⟩; have HHE := Lib.hid (has_of_owns ho); clear ho) | (go_at_call 60; (with_reducible refine (HAS.out _ _ _ (HHE.out.below (by exact blw))).mono ?_); rintro e wb ⟨rfl, hbb⟩) | (go_at_call 59; (with_reducible refine (HCG.out _ (by exact blw)).mono ?_); rintro e wd ⟨ps, go, rfl, hown, htab, hbd⟩; have HOW := Lib.hid hown; have HTB := Lib.hid htab; clear hown htab)); refine HK_.out _ _ (wld_ofA) ?_; clear HK_)
  (refine tree_quiet gtA (by rfl) (by rfl) (fun K_ hK_ => ?_); go_big_quiet_op; refine hK_ _ ?_; clear hK_ K_)
  refine tree_nil ?_
  clear hG_
  have hb9 : Below V.heap.size V wd := (by exact blw)
  go_wp2_with fail
  go_ret
  have hbA : Below V.heap.size V (wd.alloc (Obj.cells #[Value.pointer (some ⟨g, 0, none⟩), .slice (some ⟨go, 0, none⟩) M M] 99)) := balloc hb9 _
  have hwV : w.heap.size ≤ V.heap.size := by omega
  have hwb : w.heap.size ≤ wb.heap.size := by have e1 : V.heap.size ≤ wa.heap.size := hba.size; have e2 := hbb.size; omega
  refine ⟨.inl ⟨rs, S, qs, _, HCK.out, rfl, ⟨g, go, ps, by rw [HQL.out, heap_push]; exact if_pos rfl, (HMV.out.below hbA).mono (by simp), by rw [HQL.out]; exact owns_mono (HOW.out.alloc _) hwb, HTB.out.len, fun i q g hi hp => ?_⟩, by have := hb9.size; omega⟩, HBV.out.trans (hbA.mono hwV)⟩
  obtain ⟨f, ht⟩ := HTB.out.each i q g hi hp
  refine ⟨f, ?_⟩
  rw [← vb_off, ← HP.out]
  exact (ht.below (balloc (brefl _) _)).monoM hwb
theorem ctake_ok (a : Option Addr) (n c : Nat) (bs : List UInt8) (glyphs : Nat) (rs : List RP) (S : Nat) (qs : List (List RP)) (w : World) (hh : Has w a (bytesV bs)) (hbl : bs.length = n) (hnc : n ≤ c) (hc : c ≤ maxLen) (hg1 : 1 ≤ glyphs) (hg2 : glyphs ≤ 65535) (hok : COk bs glyphs rs S qs) :
    Calls Try.prog 26 #[.agg #[.slice a n c], .int .i64 (glyphs : Nat)] w fun e w' => ∃ g, e = .returned (.pointer (some ⟨g, 0, none⟩)) ∧ CIs w.heap.size g bs rs S qs w' ∧ Below w.heap.size w w' := by
  refine (ctake_any a n c bs glyphs _ rfl w hh hbl hnc hc hg1 hg2).mono ?_
  rintro e w' ⟨(⟨rs', S', qs', g, hr, he, ht⟩ | ⟨hno, _⟩), hb⟩
  · obtain ⟨rfl, rfl, rfl⟩ := hok.det hr
    exact ⟨g, he, ht, hb⟩
  · exact absurd hok (hno rs S qs)
theorem ctake_bad (a : Option Addr) (n c : Nat) (bs : List UInt8) (glyphs : Nat) (w : World) (hh : Has w a (bytesV bs)) (hbl : bs.length = n) (hnc : n ≤ c) (hc : c ≤ maxLen) (hg1 : 1 ≤ glyphs) (hg2 : glyphs ≤ 65535) (hno : ∀ rs S qs, ¬ COk bs glyphs rs S qs) :
    Calls Try.prog 26 #[.agg #[.slice a n c], .int .i64 (glyphs : Nat)] w fun e w' => e = .panicked thrown ∧ Below w.heap.size w w' := by
  refine (ctake_any a n c bs glyphs _ rfl w hh hbl hnc hc hg1 hg2).mono ?_
  rintro e w' ⟨(⟨rs', S', qs', g, hr, _⟩ | ⟨_, he⟩), hb⟩
  · exact absurd hr (hno rs' S' qs')
  · exact ⟨he, hb⟩
end Go.Proofs.Ytcegoenlajkgfaa
end
