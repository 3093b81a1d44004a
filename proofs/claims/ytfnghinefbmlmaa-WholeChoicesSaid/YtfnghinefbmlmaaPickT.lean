
/- Package pick: Settle. Conditions: as each says. -/
import Derived.Test.YtfnghinefbmlmaaPickS
namespace Go.Proofs.Ytfnghinefbmlmaa
open Go.RowKit Go.Lib

theorem set_info : (Try.prog.info? 44).map (fun i => (i.zero, i.size, i.bytes)) = some (some (.agg #[.int .i64 0, .int .i64 0]), 2, 16) := by kernel_rfl
theorem map_below {w w' : World} {P : Program} {k : TypeId} {R : Value → Option (DataW Unit × List MemPlace)} {b n : Nat} {D : DataW Unit} (h : w.ownsMap P k R b n D) (hb : Below w.heap.size w w') : w'.ownsMap P k R b n D := by
  have hl := h.lt
  obtain ⟨es, clock, hh, r⟩ := h
  exact ⟨es, clock, (hb.block b hl).trans hh, r⟩
theorem set_cells {w : World} {a : Option Addr} {l : List St} (h : Has w a (gv l)) {k : Nat} {s : St} (hs : l[k]? = some s) :
    ∃ b o, a = some ⟨b, o, none⟩ ∧ b < w.heap.size ∧ w.cell? ⟨b, o + k * 2, none⟩ = some (.int .i64 s.1) ∧ w.cell? ⟨b, o + k * 2 + 1, none⟩ = some (.int .i64 s.2) := by
  have g0 := gv_fst hs
  have g1 := gv_snd hs
  obtain ⟨b, o, rfl, hb, hc⟩ := h.get (by
    rcases Nat.eq_zero_or_pos (gv l).length with g | g
    · rw [List.getElem?_eq_none (by omega)] at g0
      cases g0
    · exact g)
  refine ⟨b, o, rfl, hb, hc (k * 2) _ g0, ?_⟩
  have := hc (k * 2 + 1) _ g1
  rwa [← Nat.add_assoc] at this
/-- What the settings' map says, while it is gone through. -/
def GoneS (ex : Int → Bool) (l : List St) (left : Lit → Bool) (rs : List St) : Prop := rs.Nodup ∧ ∀ t, t ∈ rs ↔ ∃ k, lastS ex l k = some t ∧ left (kS k) = false
theorem last_wf {ex : Int → Bool} {l : List St} {k t : St} (h : lastS ex l k = some t) : wfS k := by
  obtain ⟨_, g2, g3⟩ := last_some h
  rw [← g3]; exact share_wf g2
theorem gone_start {D : DataW Unit} {ex : Int → Bool} {l : List St} (h : SaysS D ex l) : GoneS ex l (Maps.has D) [] := ⟨List.nodup_nil, fun t => Iff.intro (fun h => by cases h) (fun ⟨k, h1, h2⟩ => by rw [(h.2.2 k t h1).1] at h2; cases h2)⟩
theorem gone_step {D : DataW Unit} {ex : Int → Bool} {l rs : List St} {left : Lit → Bool} {c : St} {kl : Lit} {y : DataW Unit × List MemPlace} (h : SaysS D ex l) (g : GoneS ex l left rs) (hl : left kl = true) (hR : setR (.agg #[.int .i64 c.1, .int .i64 c.2]) = some y) (hat : ∀ zd, D.atKey kl zd = y.1) :
    GoneS ex l (fun z => left z && !z.sameKey kl) (rs ++ [c]) := by
  rw [setR_mk] at hR
  cases hR
  obtain ⟨k, t, rfl, hk⟩ := h.2.1 kl (Maps.has_true_of_atKey hat)
  have e : t = c := dS_inj (((h.2.2 k t hk).2 (.map [])).symm.trans (hat _))
  subst e
  obtain ⟨_, _, hsh⟩ := last_some hk
  have hnot : t ∉ rs := fun ht => by
    obtain ⟨k', h1, h2⟩ := (g.2 t).1 ht
    obtain ⟨_, _, h3⟩ := last_some h1
    rw [← h3, hsh, hl] at h2
    cases h2
  refine ⟨?_, fun u => ?_⟩
  · rw [List.nodup_append]
    refine ⟨g.1, by simp, fun a ha b hb => ?_⟩
    simp only [List.mem_singleton] at hb
    subst hb
    rintro rfl
    exact hnot ha
  · rw [List.mem_append, List.mem_singleton]
    constructor
    · rintro (hu | rfl)
      · obtain ⟨k', h1, h2⟩ := (g.2 u).1 hu
        exact ⟨k', h1, by simp [h2]⟩
      · exact ⟨k, hk, by simp [WideAt.sameKey_self (kS_key k)]⟩
    · rintro ⟨k', h1, h2⟩
      cases hlk : left (kS k') with
      | false => exact .inl ((g.2 u).2 ⟨k', h1, hlk⟩)
      | true =>
        right
        simp only [hlk, Bool.true_and, Bool.not_eq_false'] at h2
        have := kS_inj (last_wf h1) (last_wf hk) (WideAt.sameKey_eq h2)
        subst this
        rw [hk] at h1
        cases h1
        rfl
theorem gone_end {ex : Int → Bool} {l rs ts : List St} {left : Lit → Bool} (g : GoneS ex l left rs) (hl : ∀ kl, left kl = false) (hp : ts.Perm rs) (hr : RiseS ts) : SetS ex l ts := by
  refine ⟨hr, fun t => ?_⟩
  rw [hp.mem_iff, g.2 t]
  constructor
  · rintro ⟨k, h1, _⟩
    obtain ⟨_, _, h3⟩ := last_some h1
    simp [onS, h3, h1]
  · intro h
    simp only [onS, beq_iff_eq] at h
    exact ⟨_, h, hl _⟩
theorem invAny (key : Value) (kl : Lit) (_h : keyOf Try.prog 44 key = some kl) : ∃ x : Value, key = id x := ⟨key, rfl⟩
theorem invSet (v : Value) (y : DataW Unit × List MemPlace) (h : setR v = some y) : ∃ c : St, v = (fun c : St => Value.agg #[.int .i64 c.1, .int .i64 c.2]) c := by
  obtain ⟨s, rfl, _⟩ := setR_inv h
  exact ⟨s, rfl⟩
theorem size_has (D : DataW Unit) : Maps.size D ≤ Maps.size D := Nat.le_refl _
theorem hg5_owns {w w' : World} {r8 base e size n : Nat} {v : Value} {xs : List Value} (h : w.ownsRow base e size v n xs) (hr : r8 < base) (g : w.grownBy w' (some r8)) : w'.ownsRow base e size v n xs := by
  refine ⟨h.1, ?_⟩
  rcases h.2 with k | ⟨k, cap, cur, hv, hk, hh, r⟩
  · exact .inl k
  · exact .inr ⟨k, cap, cur, hv, hk, by rw [g.block k (Array.getElem?_eq_some_iff.1 hh).1 (fun e => by injection e with e; omega)]; exact hh, r⟩
theorem ranges_below {w w' : World} {P : Program} {k : TypeId} {R : Value → Option (DataW Unit × List MemPlace)} {b r n B : Nat} {D : DataW Unit} {left : Lit → Bool} {cnt : Nat} (h : w.ranges P k R b r n D left cnt) (hb : Below B w w') (h1 : b < B) (h2 : r < B) : w'.ranges P k R b r n D left cnt := by
  obtain ⟨es, clock, since, seen, c0, hbk, F, hs, hD, hr, rest⟩ := h
  exact ⟨es, clock, since, seen, c0, (hb.block b h1).trans hbk, F, hs, hD, (hb.block r h2).trans hr, rest⟩
structure SetOk (w : World) (a : Option Addr) (n c : Nat) (l : List St) : Prop where
  has : Has w a (gv l)
  len : l.length = n
  small : n ≤ 10000
  wf : ∀ s ∈ l, wfS s
structure FeOk (w : World) (a : Option Addr) (n c : Nat) (fs : List FEnt) : Prop where
  has : Has w a (fents fs)
  len : fs.length = n
  small : n ≤ 10000
  ty : ∀ f ∈ fs, f.ty ≤ 65535 ∧ ∃ a m c, f.s = .slice a m c
theorem SetOk.below {w w' : World} {a : Option Addr} {n c : Nat} {l : List St} (h : SetOk w a n c l) (hb : Below w.heap.size w w') : SetOk w' a n c l := ⟨h.has.below hb, h.len, h.small, h.wf⟩
theorem FeOk.below {w w' : World} {a : Option Addr} {n c : Nat} {l : List FEnt} (h : FeOk w a n c l) (hb : Below w.heap.size w w') : FeOk w' a n c l := ⟨h.has.below hb, h.len, h.small, h.ty⟩
set_option maxRecDepth 100000 in
set_option maxHeartbeats 2000000 in
theorem settle_any (a : Option Addr) (n c : Nat) (l : List St) (fa : Option Addr) (fn fc : Nat) (fs : List FEnt) (w : World) (h : SetOk w a n c l) (hf : FeOk w fa fn fc fs) :
    Calls Try.prog 17 #[.slice a n c, .slice fa fn fc] w fun e w' => ∃ (a' : Option Addr) (m c' : Nat) (rs : List St), e = .returned (.slice a' m c') ∧ SetOk w' a' m c' rs ∧ SetS (exF fs) l rs ∧ m ≤ n ∧ m ≤ c' ∧ c' ≤ maxLen ∧ (a' = none → c' = 0) ∧ Below w.heap.size w w' := by
  have hAC := allocC
  have hAF := allocF
  have hmm := @run_makeMap Try.prog
  have HL := Lib.hid h
  have HEX := Lib.hid (exclusive_any fa fn fc fs w hf.has hf.len (by have := hf.small; omega) hf.ty)
  have hns := h.small
  have hfs := hf.small
  clear h hf
  generalize hex : exF fs = ex at *
  clear hex
  go_enter Try.func17, Try.ntmps17
  go_wp2_with (first | (go_at_call 32; (with_reducible refine HEX.out.mono ?_); rintro e w1 ⟨rfl, ⟨D0, hown0, hsay0⟩, hb1⟩; have HO0 := Lib.hid hown0; have HS0 := Lib.hid hsay0; have HB1 := Lib.hid hb1; have hz1 := hown0.lt; clear hown0 hsay0 hb1 HEX))
  go_loopw [17] (fun i wr => ∃ k : Nat, k ≤ n ∧ i = .int .i64 (k : Nat) ∧ (∃ D, wr.ownsMap Try.prog 44 setR w1.heap.size k D ∧ SaysS D ex (l.take k)) ∧ Below w1.heap.size w1 wr) (fun i _ => n - (intOf i).toNat)
  case atStart => exact ⟨0, Nat.zero_le _, rfl, ⟨.map [], World.ownsMap_made _ _ _ _, by simpa using saysS_start ex⟩, balloc (brefl _) _⟩
  case round =>
    obtain ⟨k, hk, rfl, ⟨D, hown, hsays⟩, hb⟩ := hrel
    have HB := Lib.hid hb
    have HO := Lib.hid hown
    have HS := Lib.hid hsays
    have HBW := Lib.hid (HB1.out.trans (hb.mono HB1.out.size))
    have hzr := hown.lt
    clear hb hown hsays
    by_cases hlt : k < n
    · obtain ⟨s, hs⟩ : ∃ s, l[k]? = some s := ⟨_, List.getElem?_eq_getElem (by rw [HL.out.len]; exact hlt)⟩
      have HF := Lib.hid (take_snoc hs)
      have HWF := Lib.hid (HL.out.wf s (List.mem_of_getElem? hs))
      obtain ⟨b, o, ha, hbl, c0, c1⟩ := set_cells (HL.out.has.below HBW.out) hs
      subst ha
      clear hs
      have HRT := Lib.hid (fun W => right_any s W)
      cases hr : rightS s with
      | false =>
        rw [hr] at HRT
        have HNX := Lib.hid (saysS_skip HS.out hr)
        clear hr
        go_wp2_with (go_at_call 20; (with_reducible refine (HRT.out _).mono ?_); rintro e w2 ⟨rfl, hb2⟩; have HB2 := Lib.hid hb2; clear hb2)
        go_roundw
        case rel => exact ⟨k + 1, hlt, by go_num, ⟨D, ((map_below (HO.out.alloc _) HB2.out).mono (Nat.le_succ _)), by rw [HF.out]; exact HNX.out⟩, bthen (balloc HB.out _) HB2.out⟩
        case measure => simp [intOf]; omega
      | true =>
        have HNX := Lib.hid (saysS_put HS.out hr)
        have HR := Lib.hid hr
        rw [hr] at HRT
        clear hr
        go_wp2_with (go_at_call 20; (with_reducible refine (HRT.out _).mono ?_); rintro e w2 ⟨rfl, hb2⟩; have HB2 := Lib.hid hb2; clear hb2)
        have h8 := Lib.hid ((HB2.out.block wr.heap.size (by simp)).trans (show (wr.alloc (.cells #[.int .i64 s.1, .int .i64 s.2] 44)).heap[wr.heap.size]? = some (.cells #[.int .i64 s.1, .int .i64 s.2] 44 (0, 0)) from by rw [heap_push, if_pos rfl]))
        have HM0 := Lib.hid (World.ownsMap.drew (map_below HO0.out (bthen (balloc HB.out _) HB2.out)))
        have HM1 := Lib.hid (World.ownsMap.drew (map_below (HO.out.alloc _) HB2.out))
        have HB5 := Lib.hid (bthen (balloc HB.out _) HB2.out)
        have HKS := Lib.hid (keyS (shareS ex s) (share_wf HR.out))
        have HSX := Lib.hid (HS0.out.2 s.1)
        have HSH := Lib.hid (fun W => shared_any ex s (ex s.1) W rfl HR.out)
        obtain ⟨U, hU⟩ : ∃ U, U = w2 := ⟨_, rfl⟩
        generalize wr.heap.size = g8 at *
        clear c0 c1 hbl HB2 HB HBW HRT HO hzr
        have q8 := fun o => cell_of_heap h8.out o
        have l8 := (Array.getElem?_eq_some_iff.1 h8.out).1
        clear hU
        refine wp_region_last (.step 0 (.step 1 (.step 2 (.step 3 (.step 4 (.step 7 (.step 5 (.step 6 (.step 8 .nil))))))))) 8 (by kernel_rfl) (by kernel_rfl) (by kernel_rfl) (by kernel_rfl) (by kernel_rfl) (by intro _ _ d_ _ _ h_; cases d_ <;> first | exact h_ | (dsimp +zetaDelta only at h_ ⊢; exact h_)) (fun w' => ∃ p : Wld w2 [], w' = p.val) (wld_start _ _) ?_
        have hG_ := @wldC w2
        (refine z_quiet (by simp only [List.getElem?_toArray, List.getElem?_cons_succ, List.getElem?_cons_zero]; rfl) (by rfl) (by rfl) (fun K_ hK_ => ?_); go_big_quiet_op; refine hK_ _ ?_; clear hK_ K_)
        (refine z_quiet (by simp only [List.getElem?_toArray, List.getElem?_cons_succ, List.getElem?_cons_zero]; rfl) (by rfl) (by rfl) (fun K_ hK_ => ?_); go_big_quiet_op; refine hK_ _ ?_; clear hK_ K_)
        (refine z_quiet (by simp only [List.getElem?_toArray, List.getElem?_cons_succ, List.getElem?_cons_zero]; rfl) (by rfl) (by rfl) (fun K_ hK_ => ?_); go_big_quiet_op; refine hK_ _ ?_; clear hK_ K_)
        (refine z_quiet (by simp only [List.getElem?_toArray, List.getElem?_cons_succ, List.getElem?_cons_zero]; rfl) (by rfl) (by rfl) (fun K_ hK_ => ?_); go_big_quiet_op; refine hK_ _ ?_; clear hK_ K_)
        (refine z_quiet (by simp only [List.getElem?_toArray, List.getElem?_cons_succ, List.getElem?_cons_zero]; rfl) (by rfl) (by rfl) (fun K_ hK_ => ?_); go_big_quiet_op; refine hK_ _ ?_; clear hK_ K_)
        (refine z_quiet (by simp only [List.getElem?_toArray, List.getElem?_cons_succ, List.getElem?_cons_zero]; rfl) (by rfl) (by rfl) (fun K_ hK_ => ?_); go_big_quiet_op; refine hK_ _ ?_; clear hK_ K_)
        (refine z_run (by simp only [List.getElem?_toArray, List.getElem?_cons_succ, List.getElem?_cons_zero]; rfl) (by rfl) (by rfl) (fun K_ hK_ => ?_); have HK_ := Lib.hid hK_; clear hK_; (first | ((first | (refine wpLookB _ _ 75 rfl Try.underlying75 w.heap.size fn D0 rfl HM0.out s.1 rfl HWF.out.1 (ex s.1) HSX.out ?_; (try dsimp only [Act.put]); (try simp only [List.setIfInBounds_toArray, List.set_cons_succ, List.set_cons_zero])) | (refine wpMapO _ _ _ 77 rfl 44 44 lawS Try.underlying77 setR w1.heap.size k D rfl (map_below HM1.out hb5) (by unfold maxLen; omega) _ _ (kS (shareS ex s)) rfl rfl HKS.out (dS s) [] (setR_mk s) ?_; intro w4 hown4 hgrow4; have HO4 := Lib.hid hown4; have HG4 := Lib.hid hgrow4; clear hown4 hgrow4; (try dsimp only [Act.put]); (try simp only [List.setIfInBounds_toArray, List.set_cons_succ, List.set_cons_zero])))) | (go_wp2_with ((go_at_call 33; (with_reducible refine (HSH.out _).mono ?_); rintro e w5 ⟨rfl, hb5⟩; have h5c := bc hb5; have h5f := bf hb5; have h5z := hb5.size; try simp only [World.size_alloc, World.size_drew] at h5z)))); refine HK_.out _ _ (wld_ofA) ?_; clear HK_)
        (refine z_run (by simp only [List.getElem?_toArray, List.getElem?_cons_succ, List.getElem?_cons_zero]; rfl) (by rfl) (by rfl) (fun K_ hK_ => ?_); have HK_ := Lib.hid hK_; clear hK_; (first | ((first | (refine wpLookB _ _ 75 rfl Try.underlying75 w.heap.size fn D0 rfl HM0.out s.1 rfl HWF.out.1 (ex s.1) HSX.out ?_; (try dsimp only [Act.put]); (try simp only [List.setIfInBounds_toArray, List.set_cons_succ, List.set_cons_zero])) | (refine wpMapO _ _ _ 77 rfl 44 44 lawS Try.underlying77 setR w1.heap.size k D rfl (map_below HM1.out hb5) (by unfold maxLen; omega) _ _ (kS (shareS ex s)) rfl rfl HKS.out (dS s) [] (setR_mk s) ?_; intro w4 hown4 hgrow4; have HO4 := Lib.hid hown4; have HG4 := Lib.hid hgrow4; clear hown4 hgrow4; (try dsimp only [Act.put]); (try simp only [List.setIfInBounds_toArray, List.set_cons_succ, List.set_cons_zero])))) | (go_wp2_with ((go_at_call 33; (with_reducible refine (HSH.out _).mono ?_); rintro e w5 ⟨rfl, hb5⟩; have h5c := bc hb5; have h5f := bf hb5; have h5z := hb5.size; try simp only [World.size_alloc, World.size_drew] at h5z)))); refine HK_.out _ _ (wld_ofA) ?_; clear HK_)
        (refine z_last (by simp only [List.getElem?_toArray, List.getElem?_cons_succ, List.getElem?_cons_zero]; rfl) (by rfl) (by rfl) (by rfl) (fun K_ hK_ => ?_); have HK_ := Lib.hid hK_; clear hK_; (first | ((first | (refine wpLookB _ _ 75 rfl Try.underlying75 w.heap.size fn D0 rfl HM0.out s.1 rfl HWF.out.1 (ex s.1) HSX.out ?_; (try dsimp only [Act.put]); (try simp only [List.setIfInBounds_toArray, List.set_cons_succ, List.set_cons_zero])) | (refine wpMapO _ _ _ 77 rfl 44 44 lawS Try.underlying77 setR w1.heap.size k D rfl (map_below HM1.out hb5) (by unfold maxLen; omega) _ _ (kS (shareS ex s)) rfl rfl HKS.out (dS s) [] (setR_mk s) ?_; intro w4 hown4 hgrow4; have HO4 := Lib.hid hown4; have HG4 := Lib.hid hgrow4; clear hown4 hgrow4; (try dsimp only [Act.put]); (try simp only [List.setIfInBounds_toArray, List.set_cons_succ, List.set_cons_zero])))) | (go_wp2_with ((go_at_call 33; (with_reducible refine (HSH.out _).mono ?_); rintro e w5 ⟨rfl, hb5⟩; have h5c := bc hb5; have h5f := bf hb5; have h5z := hb5.size; try simp only [World.size_alloc, World.size_drew] at h5z)))); refine HK_.out _ _ ?_; clear HK_)
        refine z_nil ?_
        clear hG_
        go_wp2_with fail
        go_roundw
        case rel => exact ⟨k + 1, hlt, by go_num, ⟨_, HO4.out, by rw [HF.out]; exact HNX.out⟩, (bthen (bdrew1 HB5.out) hb5).grown HG4.out (bthen (bdrew1 HB5.out) hb5).size (fun j hj => by cases hj; exact Nat.le_refl _)⟩
        case measure => simp [intOf]; omega
    · obtain rfl : n = k := by omega
      have hall : l.take n = l := List.take_of_length_le (by rw [HL.out.len]; exact Nat.le_refl _)
      rw [hall] at HS
      clear hall
      have hsz := HO.out.size_le
      go_wp2_with (first | (at_range; refine wpList_range_own _ rfl _ 77 rfl 44 44 lawS Try.underlying77 setR w1.heap.size n D rfl HO.out ?_; intro w3 hrg3 hg3 hs3; have HRG3 := Lib.hid hrg3; have HB3 := Lib.hid (HBW.out.grown hg3 HBW.out.size (fun j hj => by cases hj)); clear hrg3 hg3))
      go_frame
      generalize hr8 : wr.heap.size = r8 at *
      have hr3 : r8 < w3.heap.size := by omega
      have hr1 : w.heap.size < r8 := by omega
      have hz3 : w.heap.size ≤ w3.heap.size := HB3.out.size
      clear HB HBW HO HL
      go_loopw [9] (fun u wv => ∃ (left : Lit → Bool) (cnt : Nat) (rs : List St) (a' : Option Addr) (m c' : Nat), u = .slice a' m c' ∧ wv.ranges Try.prog 44 setR w1.heap.size r8 n D left cnt ∧ wv.ownsRow w3.heap.size 44 2 (.slice a' m c') m (gv rs) ∧ rs.length = m ∧ m + cnt ≤ n ∧ m ≤ c' ∧ c' ≤ maxLen ∧ (a' = none → c' = 0) ∧ GoneS ex l left rs ∧ Below w.heap.size w wv ∧ w3.heap.size ≤ wv.heap.size) (fun _ wv => wv.rangeLeft w1.heap.size r8)
      case atStart => exact ⟨_, _, [], none, 0, 0, rfl, HRG3.out, ⟨rfl, .inl ⟨rfl, rfl⟩⟩, rfl, by omega, Nat.le_refl _, Nat.zero_le _, fun _ => rfl, gone_start HS.out, HB3.out, Nat.le_refl _⟩
      case round =>
        rename World => wv
        obtain ⟨left, cnt, rs, a', m, c', rfl, hrg, hown, hlen, hcnt, k1, k2, k3, hgone, hb, hzv⟩ := hrel
        have HRG := Lib.hid hrg
        have HO := Lib.hid hown
        have HLN := Lib.hid hlen
        have HG := Lib.hid hgone
        have HB := Lib.hid hb
        have H3 := Lib.hid k3
        clear hrg hown hlen hgone hb k3
        have hlt8 := HRG.out.lt
        have hlt1 := HRG.out.owns.lt
        go_wp2_with (first | (at_next; refine wpList_next_ranges _ rfl _ rfl 44 lawS setR (id : Value → Value) (fun c : St => Value.agg #[.int .i64 c.1, .int .i64 c.2]) invAny invSet w1.heap.size r8 n D left cnt rfl HRG.out ?_ ?_))
        · intro hc0 hl0
          have HL0 := Lib.hid hl0
          have HST := Lib.hid (gsort_own a' m c' w3.heap.size rs wv HO.out HLN.out (by omega) HG.out.1)
          clear hl0
          go_wp2_with (go_at_call 34; (with_reducible refine HST.out.mono ?_); rintro e w5 ⟨rfl, ⟨ts, hp, hr, hh⟩, hb5⟩; have HP := Lib.hid hp; have HR := Lib.hid hr; have HH := Lib.hid hh; have HB5 := Lib.hid hb5; clear hp hr hh hb5)
          go_ret
          have hset := gone_end HG.out HL0.out HP.out HR.out
          exact ⟨a', m, c', ts, rfl, ⟨HH.out, by rw [HP.out.length_eq]; exact HLN.out, by omega, fun s hs => by
            have := on_right ((hset.2 s).1 hs)
            have hb := right_b this
            exact ⟨wfI_of (by omega) (by omega), wfI_of (by omega) (by omega)⟩⟩, hset, by omega, k1, k2, H3.out, HB.out.trans (HB5.out.mono hz3)⟩
        · intro x s1 s2 kl y1 y2 w5 cnt5 hkey hlk hR hat hrg5 hlt5 hg5 hs5 hen
          have HNX := Lib.hid (gone_step (c := (s1, s2)) (y := (y1, y2)) HS.out HG.out hlk hR hat)
          have HRG5 := Lib.hid hrg5
          have HG5 := Lib.hid hg5
          have HB5 := Lib.hid (HB.out.grown hg5 HB.out.size (fun j hj => by cases hj; omega))
          have HO5 := Lib.hid (hg5_owns HO.out hr3 hg5)
          (try simp only [id] at hen)
          have hz5 := HB5.out.size
          have hzv5 : w3.heap.size ≤ w5.heap.size := by omega
          clear hs5
          clear hkey hlk hR hat hrg5 hg5
          go_wp2_with (at_builtin; refine wpApp rfl _ _ 39 rfl w3.heap.size 44 (.agg #[.int .i64 0, .int .i64 0]) 2 16 Try.underlying39 set_info rfl (by decide) _ m (gv rs) rfl (owns_below HO5.out (balloc (balloc (brefl w5) _) _) (Nat.le_refl _)) (some ⟨w5.heap.size + 1, 0, none⟩) 1 1 (gv [(s1, s2)]) rfl rfl (by have := has_alloc (w5.alloc (.cells #[.int .i64 s1, .int .i64 s2] 44)) #[.int .i64 s1, .int .i64 s2] 44; rwa [World.size_alloc] at this) (fun h => by cases h) (gv_one _) (by unfold maxLen; omega) (by omega) (by simp only [World.size_alloc]; omega) ?_; intro a6 c6 w6 hown6 k61 k62 k63 hb6 hg6; have HO6 := Lib.hid hown6; have HB6 := Lib.hid hb6; have H63 := Lib.hid k63; clear hown6 k63 hb6 hg6; (try dsimp only [Act.put]); (try simp only [List.setIfInBounds_toArray, List.set_cons_succ, List.set_cons_zero]))
          have HBB := Lib.hid (show Below w3.heap.size w5 w6 from ((Below.refl _ _).alloc (by omega) _ |>.alloc (by simp only [World.size_alloc]; omega) _).trans HB6.out)
          have HRG6 := Lib.hid (ranges_below HRG5.out HBB.out (by omega) (by omega))
          go_roundw
          case rel => exact ⟨_, cnt5, rs ++ [(s1, s2)], a6, m + 1, c6, rfl, HRG6.out, by rw [gv_append]; exact HO6.out, by rw [List.length_append, HLN.out]; rfl, by omega, k61, k62, H63.out, HNX.out, HB5.out.trans (HBB.out.mono hz3), Nat.le_trans (by omega) HBB.out.size⟩
          case measure => rw [HRG6.out.left_eq, HRG.out.left_eq]; exact hlt5
end Go.Proofs.Ytfnghinefbmlmaa
