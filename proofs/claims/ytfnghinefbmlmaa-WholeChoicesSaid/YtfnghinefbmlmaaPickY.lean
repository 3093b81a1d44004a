
/- The statements' features of package pick; how big a case is; that the layer speaks. Conditions: as each says. -/
import Derived.Test.YtfnghinefbmlmaaPickX
namespace Go.Proofs.Ytfnghinefbmlmaa
open Go.RowKit Go.Lib

theorem owns_apart {w w' : World} {B1 B2 e1 e2 s1 s2 n1 n2 : Nat} {v1 v2 : Value} {x1 x2 : List Value} (h1 : w.ownsRow B1 e1 s1 v1 n1 x1) (h2 : w.ownsRow B2 e2 s2 v2 n2 x2) (hne : e1 ≠ e2) (g : w.grownBy w' v1.ownBlock) : w'.ownsRow B2 e2 s2 v2 n2 x2 := by
  refine ⟨h2.1, ?_⟩
  rcases h2.2 with k | ⟨k, cap, cur, hv, hk, hh, r⟩
  · exact .inl k
  · refine .inr ⟨k, cap, cur, hv, hk, ?_, r⟩
    rw [g.block k (Array.getElem?_eq_some_iff.1 hh).1 ?_]
    · exact hh
    · intro e
      rcases h1.2 with ⟨hv1, _⟩ | ⟨k1, cap1, cur1, hv1, _, hh1, _⟩
      · rw [hv1] at e; cases e
      · rw [hv1] at e
        have e' : k = k1 := by injection e
        rw [e', hh1] at hh
        injection hh with hh
        injection hh with _ hh _
        exact hne hh
def boolsV (xs : List Bool) : List Value := xs.map .bool
theorem boolsV_get {xs : List Bool} {j : Nat} {x : Bool} (h : xs[j]? = some x) : (boolsV xs)[j]? = some (.bool x) := by simp [boolsV, h]
/-- A feature of the statements'. -/
def ftOf (k : Nat) (x : Bool) : FEnt := ⟨k, x, -1, .slice none 0 0⟩
def Diff (fs : List FEnt) : Prop := fs.Pairwise fun f g => f.ty ≠ g.ty
theorem exF_cons (f : FEnt) (fs : List FEnt) (n : Int) : exF (f :: fs) n = (hitF n f || exF fs n) := rfl
theorem diff_ex : ∀ {fs : List FEnt}, Diff fs → ∀ n, exR fs n = exF fs n
  | [], _, _ => rfl
  | f :: fs, h, n => by
    obtain ⟨h1, h2⟩ := List.pairwise_cons.1 h
    rw [exR_cons, exF_cons, diff_ex h2 n]
    cases he : ((f.ty : Int) == n) with
    | false => simp [hitF, he]
    | true =>
      have : exF fs n = false := by
        unfold exF
        rw [List.any_eq_false]
        intro g hg
        have := h1 g hg
        simp only [beq_iff_eq] at he
        simp only [hitF, Bool.and_eq_true, beq_iff_eq, not_and]
        intro hgn
        exact absurd (by omega) this
      rw [this]
      simp [hitF, he]
def knownF (fs : List FEnt) (k : Nat) : Bool := fs.any fun f => (f.ty : Int) == (k : Nat)
theorem known_snoc (fs : List FEnt) (f : FEnt) (k : Nat) : knownF (fs ++ [f]) k = (knownF fs k || ((f.ty : Int) == (k : Nat))) := by simp [knownF]
theorem diff_snoc {fs : List FEnt} {k : Nat} {x : Bool} (h : Diff fs) (hk : knownF fs k = false) : Diff (fs ++ [ftOf k x]) := by
  rw [Diff, List.pairwise_append]
  refine ⟨h, List.pairwise_singleton _ _, fun f hf g hg => ?_⟩
  simp only [List.mem_singleton] at hg
  subst hg
  unfold knownF at hk
  rw [List.any_eq_false] at hk
  have := hk f hf
  simp only [beq_iff_eq] at this
  intro e
  exact this (by rw [e]; rfl)
theorem feat_info : (Try.prog.info? 36).map (fun i => (i.zero, i.size, i.bytes)) = some (some (.agg #[.int .i64 0, .bool false, .int .i64 0, .slice none 0 0]), 4, 48) := by kernel_rfl
theorem featR_info : (Try.prog.info? 74).map (fun i => (i.zero, i.size, i.bytes)) = some (some (.agg #[.int .i64 0, .bool false, .int .i64 0, .slice none 0 0]), 4, 48) := by kernel_rfl
theorem fents_app (a b : List FEnt) : fents (a ++ b) = fents a ++ fents b := by simp [fents]
theorem fents_length (fs : List FEnt) : (fents fs).length = fs.length * 4 := by
  induction fs with
  | nil => rfl
  | cons x l ih => show (x.enc ++ fents l).length = _; rw [List.length_append, ih, List.length_cons]; simp [FEnt.enc]; omega
structure FAll (fs : List FEnt) : Prop where
  diff : Diff fs
  ty : ∀ f ∈ fs, f.ty ≤ 65535 ∧ f.df = -1 ∧ f.s = .slice none 0 0
/-- The two rows of features that the statements make. -/
structure FTwo (B : Nat) (w : World) (a : Option Addr) (m c : Nat) (a' : Option Addr) (c' : Nat) (fs : List FEnt) : Prop where
  r1 : w.ownsRow B 36 4 (.slice a m c) m (fents fs)
  r2 : w.ownsRow B 74 4 (.slice a' m c') m (fents fs)
  len : fs.length = m
  all : FAll fs
theorem FTwo.below {B m c c' : Nat} {w w' : World} {a a' : Option Addr} {fs : List FEnt} (h : FTwo B w a m c a' c' fs) (hb : Below w.heap.size w w') : FTwo B w' a m c a' c' fs := ⟨owns_below h.r1 hb (Nat.le_refl _), owns_below h.r2 hb (Nat.le_refl _), h.len, h.all⟩
theorem FTwo.fe {B m c c' : Nat} {w : World} {a a' : Option Addr} {fs : List FEnt} (h : FTwo B w a m c a' c' fs) (hm : m ≤ 10000) : FeOk w a m c fs := ⟨has_of_owns h.r1, h.len, hm, fun f hf => ⟨(h.all.ty f hf).1, none, 0, 0, (h.all.ty f hf).2.2⟩⟩
theorem FTwo.rf {B m c c' : Nat} {w : World} {a a' : Option Addr} {fs : List FEnt} (h : FTwo B w a m c a' c' fs) (hm : m ≤ 10000) : RfOk w a' m c' fs (exF fs) := ⟨has_of_owns h.r2, h.len, hm, diff_ex h.all.diff⟩
set_option maxRecDepth 100000 in
set_option maxHeartbeats 4000000 in
theorem features_any (ka : Option Addr) (kn kc : Nat) (ks : List UInt8) (xa : Option Addr) (xn xc : Nat) (xs : List Bool) (w : World) (hk : Has w ka (bytesV ks)) (hkl : ks.length = kn) (hkn : kn ≤ 40) (hx : Has w xa (boolsV xs)) (hxl : xs.length = xn) (hxc : xn ≤ maxLen) :
    Calls Try.prog 16 #[.slice ka kn kc, .slice xa xn xc] w fun e w' => ∃ (a : Option Addr) (m c : Nat) (a' : Option Addr) (c' : Nat) (fs : List FEnt), e = .returned (.tuple #[.slice a m c, .slice a' m c']) ∧ FTwo w.heap.size w' a m c a' c' fs ∧ m ≤ kn ∧ Below w.heap.size w w' := by
  have hAC := allocC
  have hAF := allocF
  have HK := Lib.hid hk
  have HKL := Lib.hid hkl
  have HX := Lib.hid hx
  have HXL := Lib.hid hxl
  unfold maxLen at hxc
  clear hk hkl hx hxl
  go_enter Try.func16, Try.ntmps16
  go_wp2_with fail
  go_loopw [6, 7, 16] (fun u v i wr => ∃ (k : Nat) (a : Option Addr) (m c : Nat) (a' : Option Addr) (c' : Nat) (fs : List FEnt), k ≤ kn ∧ i = .int .i64 (k : Nat) ∧ u = .slice a m c ∧ v = .slice a' m c' ∧ FTwo w.heap.size wr a m c a' c' fs ∧ m ≤ k ∧ Below w.heap.size w wr) (fun _ _ i _ => kn - (intOf i).toNat)
  case atStart => exact ⟨0, none, 0, 0, none, 0, [], Nat.zero_le _, rfl, rfl, rfl, ⟨⟨rfl, .inl ⟨rfl, rfl⟩⟩, ⟨rfl, .inl ⟨rfl, rfl⟩⟩, rfl, List.Pairwise.nil, fun f hf => by cases hf⟩, Nat.zero_le _, blw⟩
  case round =>
    obtain ⟨k, a, m, c, a', c', fs, hk, rfl, rfl, rfl, htwo, hm, hb⟩ := hrel
    have HB := Lib.hid hb
    have HT := Lib.hid htwo
    have hzr := hb.size
    clear hb htwo
    by_cases hlt : k < kn
    · obtain ⟨y, hy⟩ : ∃ y, ks[k]? = some y := ⟨_, List.getElem?_eq_getElem (by rw [HKL.out]; exact hlt)⟩
      obtain ⟨pk, hpk, hck⟩ := (HK.out.below HB.out) k (.int .u8 (y.toNat : Nat)) (by simp [bytesV, hy])
      subst hpk
      have hyb : y.toNat < 256 := y.toNat_lt
      generalize y.toNat = z at *
      clear hy
      have HXW := Lib.hid (HX.out.below HB.out)
      have hxv : ∃ xv : Bool, ((k : Int) < (xn : Int) → xs[k]? = some xv) ∧ (¬ ((k : Int) < (xn : Int)) → xv = false) := by
        by_cases g : k < xn
        · exact ⟨_, fun _ => List.getElem?_eq_getElem (by rw [HXL.out]; exact g), fun h => absurd (by omega) h⟩
        · exact ⟨false, fun h => absurd h (by omega), fun _ => rfl⟩
      obtain ⟨xv, hx1, hx2⟩ := hxv
      by_cases g : k < xn
      · have hxk := hx1 (by omega)
        obtain ⟨px, hpx, hcx⟩ := HXW.out k (.bool xv) (boolsV_get hxk)
        subst hpx
        clear hx1 hx2 hxk
        go_wp2_with fail
        go_loopw [11, 33] (fun q i wv => ∃ j : Nat, j ≤ m ∧ i = .int .i64 (j : Nat) ∧ q = .bool (knownF (fs.take j) z) ∧ Below wr.heap.size wr wv) (fun _ i _ => m - (intOf i).toNat)
        case atStart => exact ⟨0, Nat.zero_le _, rfl, rfl, Below.refl _ _⟩
        case round =>
          rename World => wv
          obtain ⟨j, hj, rfl, rfl, hbv⟩ := hrel
          have HBV := Lib.hid hbv
          have hzv := hbv.size
          clear hbv
          by_cases hltj : j < m
          · obtain ⟨f, hf⟩ : ∃ f, fs[j]? = some f := ⟨_, List.getElem?_eq_getElem (by rw [HT.out.len]; exact hltj)⟩
            have HSN := Lib.hid (show knownF (fs.take (j + 1)) z = (knownF (fs.take j) z || ((f.ty : Int) == (z : Nat))) from by rw [take_snoc hf, known_snoc])
            obtain ⟨_, hfd, hfs⟩ := HT.out.all.ty f (List.mem_of_getElem? hf)
            obtain ⟨b, o, ha, hbl, c0, c1, c2, c3⟩ := fent_cells (has_of_owns (HT.out.below HBV.out).r1) hf
            subst ha
            rw [hfd] at c2
            rw [hfs] at c3
            generalize hkn2 : knownF (fs.take j) z = q at *
            clear hf hfd hfs hkn2
            cases q with
            | true =>
              rw [Bool.true_or] at HSN
              go_wp2_with fail
              go_roundw
              case rel => exact ⟨j + 1, hltj, by go_num, by rw [HSN.out], balloc HBV.out _⟩
              case measure => simp [intOf]; omega
            | false =>
              rw [Bool.false_or] at HSN
              go_wp2_with fail
              go_roundw
              case rel => exact ⟨j + 1, hltj, by go_num, by rw [HSN.out], balloc HBV.out _⟩
              case measure => simp [intOf]; omega
          · obtain rfl : m = j := by omega
            have hall : fs.take m = fs := List.take_of_length_le (by rw [HT.out.len]; exact Nat.le_refl _)
            rw [hall]
            clear hall
            have HBW := Lib.hid (HB.out.trans (HBV.out.mono hzr))
            cases hq : knownF fs z with
            | true =>
              go_wp2_with fail
              go_roundw
              case rel => exact ⟨k + 1, a, m, c, a', c', fs, hlt, by go_num, rfl, rfl, HT.out.below HBV.out, by omega, HBW.out⟩
              case measure => simp [intOf]; omega
            | false =>
              have HA := Lib.hid (show FAll (fs ++ [ftOf z xv]) from ⟨diff_snoc HT.out.all.diff hq, fun f hf => by
                rcases List.mem_append.1 hf with hf | hf
                · exact HT.out.all.ty f hf
                · simp only [List.mem_singleton] at hf
                  subst hf
                  exact ⟨by show z ≤ 65535; omega, rfl, rfl⟩⟩)
              have HTV := Lib.hid (HT.out.below HBV.out)
              have hzw := HBW.out.size
              clear hq
              go_wp2_with (first | (at_builtin; refine wpApp rfl _ _ 28 rfl w.heap.size 36 (.agg #[.int .i64 0, .bool false, .int .i64 0, .slice none 0 0]) 4 48 Try.underlying28 feat_info rfl (by decide) _ m (fents fs) rfl (owns_below HTV.out.r1 (balloc (brefl wv) _) (Nat.le_refl _)) (some ⟨wv.heap.size, 0, none⟩) 1 1 (fents [ftOf z xv]) rfl rfl (has_alloc _ _ _) (fun h => by cases h) (fun u hu => by simp [fents, ftOf, FEnt.enc] at hu; rcases hu with rfl | rfl | rfl | rfl <;> rfl) (by unfold maxLen; omega) (by omega) (by simp only [World.size_alloc]; omega) ?_; intro a6 c6 w6 hown6 k61 k62 k63 hb6 hg6; have HO6 := Lib.hid hown6; have HB6 := Lib.hid hb6; have HR6 := Lib.hid (owns_apart (owns_below HTV.out.r1 (balloc (brefl wv) _) (Nat.le_refl _)) (owns_below HTV.out.r2 (balloc (brefl wv) _) (Nat.le_refl _)) (by decide) hg6); have hz6 := Nat.le_trans hzw (Nat.le_trans (by simp only [World.size_alloc]; omega) hg6.size); clear hown6 k61 k62 k63 hb6 hg6; (try dsimp only [Act.put]); (try simp only [List.setIfInBounds_toArray, List.set_cons_succ, List.set_cons_zero])) | (at_builtin; refine wpApp rfl _ _ 46 rfl w.heap.size 74 (.agg #[.int .i64 0, .bool false, .int .i64 0, .slice none 0 0]) 4 48 Try.underlying46 featR_info rfl (by decide) _ m (fents fs) rfl (owns_below HR6.out (balloc (brefl w6) _) (Nat.le_refl _)) (some ⟨w6.heap.size, 0, none⟩) 1 1 (fents [ftOf z xv]) rfl rfl (has_alloc _ _ _) (fun h => by cases h) (fun u hu => by simp [fents, ftOf, FEnt.enc] at hu; rcases hu with rfl | rfl | rfl | rfl <;> rfl) (by unfold maxLen; omega) (by omega) (by simp only [World.size_alloc]; omega) ?_; intro a7 c7 w7 hown7 k71 k72 k73 hb7 hg7; have HO7 := Lib.hid hown7; have HB7 := Lib.hid hb7; have HR7 := Lib.hid (owns_apart (owns_below HR6.out (balloc (brefl w6) _) (Nat.le_refl _)) (owns_below HO6.out (balloc (brefl w6) _) (Nat.le_refl _)) (by decide) hg7); clear hown7 k71 k72 k73 hb7 hg7; (try dsimp only [Act.put]); (try simp only [List.setIfInBounds_toArray, List.set_cons_succ, List.set_cons_zero])))
              go_roundw
              case rel => exact ⟨k + 1, a6, m + 1, c6, a7, c7, fs ++ [ftOf z xv], hlt, by go_num, rfl, rfl, ⟨by rw [fents_app]; exact HR7.out, by rw [fents_app]; exact HO7.out, by rw [List.length_append, HT.out.len]; rfl, HA.out⟩, by omega, (((HBW.out.alloc hzw _).trans HB6.out).alloc hz6 _).trans HB7.out⟩
              case measure => simp [intOf]; omega
      · have hxk := hx2 (by omega)
        subst hxk
        clear hx1 hx2
        go_wp2_with fail
        go_loopw [11, 33] (fun q i wv => ∃ j : Nat, j ≤ m ∧ i = .int .i64 (j : Nat) ∧ q = .bool (knownF (fs.take j) z) ∧ Below wr.heap.size wr wv) (fun _ i _ => m - (intOf i).toNat)
        case atStart => exact ⟨0, Nat.zero_le _, rfl, rfl, Below.refl _ _⟩
        case round =>
          rename World => wv
          obtain ⟨j, hj, rfl, rfl, hbv⟩ := hrel
          have HBV := Lib.hid hbv
          have hzv := hbv.size
          clear hbv
          by_cases hltj : j < m
          · obtain ⟨f, hf⟩ : ∃ f, fs[j]? = some f := ⟨_, List.getElem?_eq_getElem (by rw [HT.out.len]; exact hltj)⟩
            have HSN := Lib.hid (show knownF (fs.take (j + 1)) z = (knownF (fs.take j) z || ((f.ty : Int) == (z : Nat))) from by rw [take_snoc hf, known_snoc])
            obtain ⟨_, hfd, hfs⟩ := HT.out.all.ty f (List.mem_of_getElem? hf)
            obtain ⟨b, o, ha, hbl, c0, c1, c2, c3⟩ := fent_cells (has_of_owns (HT.out.below HBV.out).r1) hf
            subst ha
            rw [hfd] at c2
            rw [hfs] at c3
            generalize hkn2 : knownF (fs.take j) z = q at *
            clear hf hfd hfs hkn2
            cases q with
            | true =>
              rw [Bool.true_or] at HSN
              go_wp2_with fail
              go_roundw
              case rel => exact ⟨j + 1, hltj, by go_num, by rw [HSN.out], balloc HBV.out _⟩
              case measure => simp [intOf]; omega
            | false =>
              rw [Bool.false_or] at HSN
              go_wp2_with fail
              go_roundw
              case rel => exact ⟨j + 1, hltj, by go_num, by rw [HSN.out], balloc HBV.out _⟩
              case measure => simp [intOf]; omega
          · obtain rfl : m = j := by omega
            have hall : fs.take m = fs := List.take_of_length_le (by rw [HT.out.len]; exact Nat.le_refl _)
            rw [hall]
            clear hall
            have HBW := Lib.hid (HB.out.trans (HBV.out.mono hzr))
            cases hq : knownF fs z with
            | true =>
              go_wp2_with fail
              go_roundw
              case rel => exact ⟨k + 1, a, m, c, a', c', fs, hlt, by go_num, rfl, rfl, HT.out.below HBV.out, by omega, HBW.out⟩
              case measure => simp [intOf]; omega
            | false =>
              have HA := Lib.hid (show FAll (fs ++ [ftOf z false]) from ⟨diff_snoc HT.out.all.diff hq, fun f hf => by
                rcases List.mem_append.1 hf with hf | hf
                · exact HT.out.all.ty f hf
                · simp only [List.mem_singleton] at hf
                  subst hf
                  exact ⟨by show z ≤ 65535; omega, rfl, rfl⟩⟩)
              have HTV := Lib.hid (HT.out.below HBV.out)
              have hzw := HBW.out.size
              clear hq
              go_wp2_with (first | (at_builtin; refine wpApp rfl _ _ 28 rfl w.heap.size 36 (.agg #[.int .i64 0, .bool false, .int .i64 0, .slice none 0 0]) 4 48 Try.underlying28 feat_info rfl (by decide) _ m (fents fs) rfl (owns_below HTV.out.r1 (balloc (brefl wv) _) (Nat.le_refl _)) (some ⟨wv.heap.size, 0, none⟩) 1 1 (fents [ftOf z false]) rfl rfl (has_alloc _ _ _) (fun h => by cases h) (fun u hu => by simp [fents, ftOf, FEnt.enc] at hu; rcases hu with rfl | rfl | rfl | rfl <;> rfl) (by unfold maxLen; omega) (by omega) (by simp only [World.size_alloc]; omega) ?_; intro a6 c6 w6 hown6 k61 k62 k63 hb6 hg6; have HO6 := Lib.hid hown6; have HB6 := Lib.hid hb6; have HR6 := Lib.hid (owns_apart (owns_below HTV.out.r1 (balloc (brefl wv) _) (Nat.le_refl _)) (owns_below HTV.out.r2 (balloc (brefl wv) _) (Nat.le_refl _)) (by decide) hg6); have hz6 := Nat.le_trans hzw (Nat.le_trans (by simp only [World.size_alloc]; omega) hg6.size); clear hown6 k61 k62 k63 hb6 hg6; (try dsimp only [Act.put]); (try simp only [List.setIfInBounds_toArray, List.set_cons_succ, List.set_cons_zero])) | (at_builtin; refine wpApp rfl _ _ 46 rfl w.heap.size 74 (.agg #[.int .i64 0, .bool false, .int .i64 0, .slice none 0 0]) 4 48 Try.underlying46 featR_info rfl (by decide) _ m (fents fs) rfl (owns_below HR6.out (balloc (brefl w6) _) (Nat.le_refl _)) (some ⟨w6.heap.size, 0, none⟩) 1 1 (fents [ftOf z false]) rfl rfl (has_alloc _ _ _) (fun h => by cases h) (fun u hu => by simp [fents, ftOf, FEnt.enc] at hu; rcases hu with rfl | rfl | rfl | rfl <;> rfl) (by unfold maxLen; omega) (by omega) (by simp only [World.size_alloc]; omega) ?_; intro a7 c7 w7 hown7 k71 k72 k73 hb7 hg7; have HO7 := Lib.hid hown7; have HB7 := Lib.hid hb7; have HR7 := Lib.hid (owns_apart (owns_below HR6.out (balloc (brefl w6) _) (Nat.le_refl _)) (owns_below HO6.out (balloc (brefl w6) _) (Nat.le_refl _)) (by decide) hg7); clear hown7 k71 k72 k73 hb7 hg7; (try dsimp only [Act.put]); (try simp only [List.setIfInBounds_toArray, List.set_cons_succ, List.set_cons_zero])))
              go_roundw
              case rel => exact ⟨k + 1, a6, m + 1, c6, a7, c7, fs ++ [ftOf z false], hlt, by go_num, rfl, rfl, ⟨by rw [fents_app]; exact HR7.out, by rw [fents_app]; exact HO7.out, by rw [List.length_append, HT.out.len]; rfl, HA.out⟩, by omega, (((HBW.out.alloc hzw _).trans HB6.out).alloc hz6 _).trans HB7.out⟩
              case measure => simp [intOf]; omega
    · obtain rfl : kn = k := by omega
      go_wp2_with fail
      go_ret2
      exact ⟨a, m, c, a', c', fs, rfl, HT.out, hm, HB.out⟩
end Go.Proofs.Ytfnghinefbmlmaa
