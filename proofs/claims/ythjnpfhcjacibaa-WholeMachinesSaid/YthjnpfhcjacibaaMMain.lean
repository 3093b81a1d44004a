
/- TOLD AND MADE AGAIN: the machine's classes and steps are gathered, written, and read again. Conditions: as whole_main says. -/
import Derived.Test.YthjnpfhcjacibaaMStart
namespace Go.Proofs.Ythjnpfhcjacibaa
open Go.RowKit Go.Lib

theorem KeptO.ownsB {own : Nat → Nat → Prop} {w w' : World} (h : KeptO own w w') {base size n : Nat} {e' : TypeId} {v : Value} {xs : List Value} (ho : w.ownsRow base e' size v n xs) (hne : ∀ k, k < w.heap.size → ¬ own k e') : w'.ownsRow base e' size v n xs := by
  refine ⟨ho.1, ?_⟩
  rcases ho.2 with g | ⟨g, cap, cur, hv, hg, hh, r⟩
  · exact .inl g
  · exact .inr ⟨g, cap, cur, hv, hg, by rw [h.2 g _ _ _ hh (hne _ (Array.getElem?_eq_some_iff.1 hh).1)]; exact hh, r⟩
theorem KeptO.put {own : Nat → Nat → Prop} {w w' : World} (h : KeptO own w w') {b o : Nat} {cs : Array Value} {t : Nat} {fz : Nat × Nat} (hb : w'.heap[b]? = some (.cells cs t fz)) (ho : own b t) (v : Value) : KeptO own w (w'.setCell ⟨b, o, none⟩ v) := by
  refine ⟨by simpa using h.1, fun g cs' t' fz' hg hn => ?_⟩
  have h1 := h.2 g cs' t' fz' hg hn
  by_cases e : g = b
  · subst e
    rw [hg, hb] at h1
    injection h1 with h1
    injection h1 with _ h2 _
    subst h2
    exact absurd ho hn
  · rw [set_heap_other v e, h1]
theorem KeptO.weak {own own' : Nat → Nat → Prop} {w w' : World} (h : KeptO own w w') (hi : ∀ k t, own k t → own' k t) : KeptO own' w w' := ⟨h.1, fun g cs t fz hg hn => h.2 g cs t fz hg fun h_ => hn (hi _ _ h_)⟩
def ownQ (Z k t : Nat) : Prop := (t = 5 ∧ Z ≤ k) ∨ t = 28 ∨ t = 26
/-- The rows that are gathered so far. -/
structure QRows (B C s : Nat) (rv : List Value) (w : World) : Prop where
  len : rv.length = s
  each : ∀ i, i < s → ∃ (ai : Option Addr) (ci : Nat), rv[i]? = some (.slice ai C ci) ∧ w.ownsRow B 5 1 (.slice ai C ci) C (bytesV (rowQ C i C))
theorem QRows.below {B C s : Nat} {rv : List Value} {w w' : World} (h : QRows B C s rv w) (hb : Below w.heap.size w w') : QRows B C s rv w' :=
  ⟨h.len, fun i hi => by obtain ⟨ai, ci, h1, h2⟩ := h.each i hi; exact ⟨ai, ci, h1, owns_below h2 hb (Nat.le_refl _)⟩⟩
theorem QRows.keep {B C s Z : Nat} {rv : List Value} {w w' : World} (h : QRows B C s rv w) (hk : KeptO (ownQ Z) w w') (hZ : w.heap.size ≤ Z) : QRows B C s rv w' :=
  ⟨h.len, fun i hi => by
    obtain ⟨ai, ci, h1, h2⟩ := h.each i hi
    refine ⟨ai, ci, h1, hk.ownsB h2 fun k hkk h_ => ?_⟩
    rcases h_ with h_ | h_ | h_
    · omega
    · exact absurd h_ (by decide)
    · exact absurd h_ (by decide)⟩
theorem QRows.owns {B C s : Nat} {rv : List Value} {w w' : World} (h : QRows B C s rv w) (hw : ∀ (v : Value) (xs : List Value), w.ownsRow B 5 1 v C xs → w'.ownsRow B 5 1 v C xs) : QRows B C s rv w' :=
  ⟨h.len, fun i hi => by obtain ⟨ai, ci, h1, h2⟩ := h.each i hi; exact ⟨ai, ci, h1, hw _ _ h2⟩⟩
theorem QRows.snoc {B C s : Nat} {rv : List Value} {w : World} (h : QRows B C s rv w) {a : Option Addr} {c : Nat} (ho : w.ownsRow B 5 1 (.slice a C c) C (bytesV (rowQ C s C))) : QRows B C (s + 1) (rv ++ [.slice a C c]) w :=
  ⟨by rw [List.length_append, h.len]; rfl, fun i hi => by
    by_cases e : i < s
    · obtain ⟨ai, ci, h1, h2⟩ := h.each i e
      exact ⟨ai, ci, by rw [List.getElem?_append_left (by rw [h.len]; exact e)]; exact h1, h2⟩
    · obtain rfl : i = s := by omega
      exact ⟨a, c, by rw [List.getElem?_append_right (by rw [h.len]; exact Nat.le_refl _), h.len, Nat.sub_self]; rfl, ho⟩⟩
theorem entA_entQ (b : List UInt8) (i : Nat) : entA (b.drop (num b 12 4)) 2 (entN b i) = .agg #[.int .i64 (entQ b i).1, .int .i64 (entQ b i).2.1, .int .i64 (entQ b i).2.2.1, .int .i64 (entQ b i).2.2.2] := by
  simp only [entA, entQ, show (0 : Nat) < 2 by omega, show (1 : Nat) < 2 by omega, if_true, show 4 + 2 * 2 = 8 from rfl]
theorem entsC_len : ∀ l : List (Int × Int × Int × Int), (l.flatMap entC4).length = l.length * 4
  | [] => rfl
  | x :: l => by rw [List.flatMap_cons, List.length_append, entsC_len l, List.length_cons]; simp [entC4]; omega
theorem entsQ_snoc (b : List UInt8) (n : Nat) : (entsQ b (n + 1)).flatMap entC4 = (entsQ b n).flatMap entC4 ++ entC4 (entQ b n) := by rw [entsQ_succ, List.flatMap_append]; simp
theorem has_at (w : World) (cs : Array Value) (t : TypeId) (g : Nat) (hg : g = w.heap.size) : Has (w.alloc (.cells cs t)) (some ⟨g, 0, none⟩) cs.toList := by
  subst hg
  exact has_alloc w cs t
theorem info_rowsQ : (Try.prog.info? 22).map (fun i => (i.zero, i.size, i.bytes)) = some (some (.slice none 0 0), 1, 24) := by kernel_rfl
theorem bytesV_snoc (l : List UInt8) (x : Nat) (h : x < 256) : bytesV (l ++ [UInt8.ofNat x]) = bytesV l ++ [.int .u8 (x : Nat)] := by
  simp only [bytesV, List.map_append, List.map_cons, List.map_nil, u8_of h]
set_option maxRecDepth 100000 in
set_option maxHeartbeats 3200000 in
theorem whole_main (nC nR nE cC cR cE wy nB : Nat) (bs : List UInt8) (aC aR aE : Option Addr) (w : World) (hs : nC ≤ 40 ∧ nR ≤ 8 ∧ nE ≤ 20) (hL : bs.length = nB)
    (hw : ∀ W, Below w.heap.size w W → Calls Try.prog 5 #[.agg #[.slice aC nC cC, .slice aR nR cR, .slice aE nE cE, .int .u8 (wy : Nat)], .int .i64 2, .int .i64 0] W fun e w' => ∃ a' c', e = .returned (.slice a' nB c') ∧ Has w' a' (bytesV bs) ∧ nB ≤ c' ∧ c' ≤ maxLen ∧ Below W.heap.size W w')
    (rs : List RP) (S : Nat) (hok : MOk bs 40 2 rs S) (hq : QSmall bs S) :
    Calls Try.prog 3 #[.agg #[.slice aC nC cC, .slice aR nR cR, .slice aE nE cE, .int .u8 (wy : Nat)]] w fun e w' => e = .returned (.bool true) ∧ Below w.heap.size w w' := by
  have hAC := allocC
  have hAF := allocF
  have HW := Lib.hid hw
  have HL := Lib.hid hL
  have d1 : decide ((40 : Int) < (nC : Int)) = false := by simp; omega
  have d2 : decide ((8 : Int) < (nR : Int)) = false := by simp; omega
  have d3 : decide ((20 : Int) < (nE : Int)) = false := by simp; omega
  clear hw hL hs
  have HOK := Lib.hid hok
  have hS : S ≤ 65536 := by have := hok.least.is_max; have := needS_le bs 2 (needE bs S); omega
  have hC := hok.cls.2
  have hfit := hok.lk.fit (by decide) (.inl rfl)
  have hP : S * num bs 0 4 ≤ 65536 * 65535 := Nat.mul_le_mul hS hC
  clear hok
  go_enter Try.func3, Try.ntmps3
  go_wp2_with fail
  obtain ⟨V, hV⟩ : ∃ V, V = ((((((w.alloc (Obj.cells #[.slice aC nC cC, .slice aR nR cR, .slice aE nE cE, .int .u8 (wy : Nat)] 26)).alloc (Obj.cells #[.int .i64 1, .int .i64 0, .int .i64 0, .int .i64 0] 28)).alloc (Obj.cells #[.int .u8 0] 5)).alloc (Obj.cells #[.int .u8 0] 5)).alloc (Obj.cells #[.slice (some ⟨w.heap.size + 1 + 1, 0, none⟩) 1 1, .slice (some ⟨w.heap.size + 1 + 1 + 1, 0, none⟩) 1 1] 22)).alloc (Obj.cells #[.int .i64 1, .int .i64 0, .int .i64 0, .int .i64 0] 28)) := ⟨_, rfl⟩
  have hp := start_has w #[.slice aC nC cC, .slice aR nR cR, .slice aE nE cE, .int .u8 (wy : Nat)] 26 28 5 22 28 #[.int .i64 1, .int .i64 0, .int .i64 0, .int .i64 0]
  have hb0 : Below w.heap.size w V := by rw [hV]; exact blw
  have z0 : V.heap[w.heap.size]? = some (.cells #[.slice aC nC cC, .slice aR nR cR, .slice aE nE cE, .int .u8 (wy : Nat)] 26 (0, 0)) := by
    rw [hV]
    simp only [heap_push, World.size_alloc]
    rw [if_neg (by omega), if_neg (by omega), if_neg (by omega), if_neg (by omega), if_neg (by omega)]
    first | rfl | exact if_pos rfl | simp
  rw [← hV] at hp
  rw [← hV]
  clear hV
  refine (writeM _ _ _ _ 0 2 1 V hp).mono ?_
  rintro e w7 ⟨a', c', rfl, hown, k1, k2, hb7⟩
  have HW7 := Lib.hid (hb0.trans (hb7.mono hb0.size))
  have Z7 := Lib.hid ((hb7.block w.heap.size (Array.getElem?_eq_some_iff.1 z0).1).trans z0)
  have HHb := Lib.hid (has_of_owns hown)
  have HRD := Lib.hid (fun W (hW : Below w7.heap.size w7 W) => mread_some a' 46 c' bytesM 9 2 9 2 rfl rfl [] 2 W (HHb.out.below hW) rfl k1 k2 (by decide) (by decide) (by decide) okM)
  clear hown hb7 hp hb0 z0
  go_wp2_with fail
  refine (HRD.out _ (brefl _)).mono ?_
  rintro e w8 ⟨g, rfl, hM, hb8⟩
  have z8 := (hb8.block w.heap.size (Array.getElem?_eq_some_iff.1 Z7.out).1).trans Z7.out
  have q8 := fun o => cell_of_heap z8 o
  have f8 := fun o => froz_of_heap z8 o
  have l8 := (Array.getElem?_eq_some_iff.1 z8).1
  have HB8 := Lib.hid (HW7.out.trans (hb8.mono HW7.out.size))
  have HST := Lib.hid (fun W (hW : Below w8.heap.size w8 W) => show Calls Try.prog 6 #[.pointer (some ⟨g, 0, none⟩)] W fun e w' => e = .returned (.int .i64 2) ∧ Below W.heap.size W w' from states_any w7.heap.size g bytesM 2 [] 2 W (hM.below hW))
  clear hM hb8 HRD
  go_wp2_with fail
  refine (HST.out _ (brefl _)).mono ?_
  rintro e w9 ⟨rfl, hb9⟩
  have HB9 := Lib.hid (HB8.out.trans (hb9.mono HB8.out.size))
  have z9 := (hb9.block w.heap.size l8).trans z8
  have q9 := fun o => cell_of_heap z9 o
  have f9 := fun o => froz_of_heap z9 o
  clear q8 f8
  go_wp2_with fail
  refine (HW.out _ HB9.out).mono ?_
  rintro e w10 ⟨a1, c1, rfl, hh1, k11, k12, hb10⟩
  have HB10 := Lib.hid (HB9.out.trans (hb10.mono HB9.out.size))
  have HH1 := Lib.hid hh1
  clear hh1 hb10 q9 f9 z9
  go_wp2_with fail
  refine (mread_some a1 nB c1 bs 40 2 40 2 rfl rfl rs S w10 HH1.out HL.out k11 k12 (by decide) (by decide) (by decide) HOK.out).mono ?_
  rintro e w11 ⟨g1, rfl, hM1, hb11⟩
  have HB11 := Lib.hid (HB10.out.trans (hb11.mono HB10.out.size))
  have HST1 := Lib.hid (fun W (hW : Below w11.heap.size w11 W) => states_any w10.heap.size g1 bs 2 rs S W (hM1.below hW))
  have HCL1 := Lib.hid (fun W (hW : Below w11.heap.size w11 W) => classes_any w10.heap.size g1 bs 2 rs S W (hM1.below hW))
  have HFIT := Lib.hid (hfit)
  clear hb11 hfit
  have hq4 := hq.c4
  have hq11 := hq.c11
  have hqf := hq.few
  have HQ := Lib.hid hq
  clear hq
  obtain ⟨C, hCC⟩ : ∃ C, C = num bs 0 4 := ⟨_, rfl⟩
  have HC := Lib.hid hCC
  rw [← hCC] at HCL1 hq4 hq11 hqf
  clear hCC hP
  have dm : (S : Int) * (C : Int) = ((S * C : Nat) : Int) := by simp
  obtain ⟨P, hPP⟩ : ∃ P, P = S * C := ⟨_, rfl⟩
  have HP := Lib.hid hPP
  rw [← hPP] at dm hqf
  clear hPP
  have d5 : decide ((250 : Int) < (P : Int)) = false := by simp; omega
  have d6 : decide ((11 : Int) < (C : Int)) = false := by simp; omega
  go_wp2_with (first | (go_at_call 6; (with_reducible refine (HST1.out _ (by exact blw)).mono ?_); rintro e w31 ⟨rfl, hb31⟩; have h31c := bc hb31; have h31f := bf hb31; have h31z := hb31.size; try simp only [World.size_alloc, World.size_drew] at h31z) | (go_at_call 7; (with_reducible refine (HCL1.out _ (by exact blw)).mono ?_); rintro e w32 ⟨rfl, hb32⟩; have h32c := bc hb32; have h32f := bf hb32; have h32z := hb32.size; try simp only [World.size_alloc, World.size_drew] at h32z) | (go_at_call 7; (with_reducible refine (HCL1.out _ (by exact blw)).mono ?_); rintro e w33 ⟨rfl, hb33⟩; have h33c := bc hb33; have h33f := bf hb33; have h33z := hb33.size; try simp only [World.size_alloc, World.size_drew] at h33z) | (go_at_call 7; (with_reducible refine (HCL1.out _ (by exact blw)).mono ?_); rintro e w34 ⟨rfl, hb34⟩; have h34c := bc hb34; have h34f := bf hb34; have h34z := hb34.size; try simp only [World.size_alloc, World.size_drew] at h34z))
  have hbl : Below w11.heap.size w11 w32 := by exact blw
  obtain ⟨V, hV⟩ : ∃ V, V = w32.alloc (Obj.cells #[.slice none 0 0, .slice none 0 0, .slice none 0 0, .int .u8 ((C : Int) - 4)] 26) := ⟨_, rfl⟩
  have hbV : Below w11.heap.size w11 V := by rw [hV]; exact hbl.alloc hbl.size _
  have xq : V.heap[w32.heap.size]? = some (.cells #[.slice none 0 0, .slice none 0 0, .slice none 0 0, .int .u8 ((C : Int) - 4)] 26 (0, 0)) := by rw [hV, heap_push, if_pos rfl]
  have hzq := hbl.size
  rw [← hV]
  have HBV := Lib.hid hbV
  have HXQ := Lib.hid xq
  have HCLS := Lib.hid (fun W (hW : Below w11.heap.size w11 W) id (hid : -9223372036854775808 ≤ id ∧ id ≤ 9223372036854775807) => class_any w10.heap.size g1 bs 2 rs S id W (hM1.below hW) HFIT.out hid)
  have HSTP := Lib.hid (fun W (hW : Below w11.heap.size w11 W) s c (hs : s < S) (hc : c < num bs 0 4) => step_yes w10.heap.size g1 bs 2 rs S s c W (hM1.below hW) hS hs hc)
  have HCLT := Lib.hid (fun id => classM_lt bs rs id (by rw [← HC.out]; exact hq4))
  obtain ⟨B, hB⟩ : ∃ B, B = w11.heap.size := ⟨_, rfl⟩
  obtain ⟨gq, hgq⟩ : ∃ gq, gq = w32.heap.size := ⟨_, rfl⟩
  rw [← hgq] at xq hzq HXQ ⊢
  rw [← hB] at hzq
  have HBB := Lib.hid hB
  clear hV hbV hbl xq hM1 hgq hB
  go_loopw [89] (fun i wr => ∃ (j : Nat) (aC : Option Addr) (cC : Nat), j ≤ 40 ∧ i = .int .i64 (j : Nat) ∧ wr.heap[gq]? = some (.cells #[.slice aC j cC, .slice none 0 0, .slice none 0 0, .int .u8 ((C : Int) - 4)] 26 (0, 0)) ∧ wr.ownsRow B 5 1 (.slice aC j cC) j (bytesV (clsQ bs rs j)) ∧ Below w11.heap.size w11 wr) (fun i _ => 40 - (intOf i).toNat)
  case atStart => exact ⟨0, none, 0, Nat.zero_le _, rfl, HXQ.out, World.ownsRow_nil _ _ _ _, HBV.out⟩
  case round =>
    obtain ⟨j, aC, cC, hj, rfl, xq, ho, hb⟩ := hrel
    rename World => wr
    have HO := Lib.hid ho
    have HB := Lib.hid hb
    have hzr := hb.size
    have hgr := (Array.getElem?_eq_some_iff.1 xq).1
    clear ho hb
    by_cases hlt : j < 40
    · have d7 : decide ((j : Int) < 40) = true := by simp; omega
      have hx := HCLT.out ((j : Nat) : Int)
      have HCJ := Lib.hid (fun W hW => HCLS.out W hW ((j : Nat) : Int) (by omega))
      have HSN := Lib.hid (clsQ_succ bs rs j)
      obtain ⟨x, hxx⟩ : ∃ x, x = classM bs rs ((j : Nat) : Int) := ⟨_, rfl⟩
      rw [← hxx] at hx HCJ HSN
      rw [← HC.out] at hx
      have hx255 : x ≤ 255 := by omega
      have HBD := Lib.hid (show Below w11.heap.size w11 wr.drew from HB.out.drew)
      clear hxx
      go_wp2_with fail
      refine wp_region_last (.step 0 (.step 1 (.step 2 (.step 3 (.step 4 (.step 5 (.step 6 (.step 7 (.step 8 (.step 9 .nil)))))))))) 9 (by kernel_rfl) (by kernel_rfl) (by kernel_rfl) (by kernel_rfl) (by kernel_rfl) (by intro _ _ d_ _ _ h_; cases d_ <;> first | exact h_ | (dsimp +zetaDelta only at h_ ⊢; exact h_)) (fun w' => ∃ p : KepP (fun k_ t_ => t_ = 5) wr, w' = p.val) (kepP_start _ _) ?_
      have hK0_ := fun (p : KepP (fun k_ t_ => t_ = 5) wr) (o : Nat) => p.is.cell xq (by first | (intro h_; exact absurd h_.1 (by decide)) | (intro h_; exact h_.2 rfl) | (intro h_; rcases h_ with h_ | h_ | h_ <;> exact absurd h_ (by decide))) o
      (refine z_quiet (by simp only [List.getElem?_toArray, List.getElem?_cons_succ, List.getElem?_cons_zero]; rfl) (by rfl) (by rfl) (fun K_ hK_ => ?_); go_big_quiet_op; refine hK_ _ ?_; clear hK_ K_)
      (refine z_quiet (by simp only [List.getElem?_toArray, List.getElem?_cons_succ, List.getElem?_cons_zero]; rfl) (by rfl) (by rfl) (fun K_ hK_ => ?_); go_big_quiet_op; refine hK_ _ ?_; clear hK_ K_)
      (refine z_quiet (by simp only [List.getElem?_toArray, List.getElem?_cons_succ, List.getElem?_cons_zero]; rfl) (by rfl) (by rfl) (fun K_ hK_ => ?_); go_big_quiet_op; refine hK_ _ ?_; clear hK_ K_)
      (refine z_quiet (by simp only [List.getElem?_toArray, List.getElem?_cons_succ, List.getElem?_cons_zero]; rfl) (by rfl) (by rfl) (fun K_ hK_ => ?_); go_big_quiet_op; refine hK_ _ ?_; clear hK_ K_)
      (refine z_run (by simp only [List.getElem?_toArray, List.getElem?_cons_succ, List.getElem?_cons_zero]; rfl) (by rfl) (by rfl) (fun K_ hK_ => ?_); have HK_ := Lib.hid hK_; clear hK_; (first | ((refine wpAppO _ _ 22 rfl B 5 (.int .u8 0) 1 1 Try.underlying22 u8_info rfl (by decide) _ j (bytesV (clsQ bs rs j)) rfl (owns_below HO.out (balloc hb5w _) (Nat.le_refl _)) ⟨w5.heap.size, 0, none⟩ 1 1 [.int .u8 (x : Nat)] rfl rfl (has_alloc _ _ _) (fun u hu => by simp at hu; subst hu; rfl) (by unfold maxLen; omega) (by omega) (by have := HBB.out; simp; omega) ?_; intro a3 c3 w6 hown3 t31 t32 t33 hb3 hg3; have hko : KeptO (fun k_ t_ => t_ = 5) wr w6 := (KeptO.below (balloc hb5w _)).trans (KeptO.grown (owns_below HO.out (balloc hb5w _) (Nat.le_refl _)) hg3 fun m hm => rfl); have hw6 := (hko.2 gq _ _ _ xq (fun h_ => absurd (show (26 : Nat) = 5 from h_) (by decide))).trans xq; have s0 := cell_of_heap hw6 0; simp only [List.getElem?_toArray, List.getElem?_cons_zero] at s0; have sf := fun o => froz_of_heap hw6 o; have HO6 := Lib.hid hown3; have HW6 := Lib.hid hw6; have HKO := Lib.hid hko; have HB6 := Lib.hid (HB.out.trans ((balloc hb5w (Obj.cells #[.int .u8 (x : Nat)] 5)).mono hzr |>.trans (hb3.mono (by have := HBB.out; omega)))); clear hown3 t31 t32 t33 hb3 hg3 hw6; dsimp only [Act.put]; simp only [List.setIfInBounds_toArray, List.set_cons_succ, List.set_cons_zero])) | (go_wp2_with (first | (go_at_call 8; (with_reducible refine (HCJ.out _ HBD.out).mono ?_); rintro e w5 ⟨rfl, hb5⟩; have hb5w : Below wr.heap.size wr w5 := (bdrew1 (brefl wr)).trans (hb5.mono (by simp)); have hz5 := hb5w.size; have hko5 : KeptO (fun k_ t_ => t_ = 5) wr w5 := KeptO.below hb5w)))); refine HK_.out _ _ (kepP_ofA) ?_; clear HK_)
      (refine z_quiet (by simp only [List.getElem?_toArray, List.getElem?_cons_succ, List.getElem?_cons_zero]; rfl) (by rfl) (by rfl) (fun K_ hK_ => ?_); go_big_quiet_op; refine hK_ _ ?_; clear hK_ K_)
      (refine z_run (by simp only [List.getElem?_toArray, List.getElem?_cons_succ, List.getElem?_cons_zero]; rfl) (by rfl) (by rfl) (fun K_ hK_ => ?_); have HK_ := Lib.hid hK_; clear hK_; (first | ((refine wpAppO _ _ 22 rfl B 5 (.int .u8 0) 1 1 Try.underlying22 u8_info rfl (by decide) _ j (bytesV (clsQ bs rs j)) rfl (owns_below HO.out (balloc hb5w _) (Nat.le_refl _)) ⟨w5.heap.size, 0, none⟩ 1 1 [.int .u8 (x : Nat)] rfl rfl (has_alloc _ _ _) (fun u hu => by simp at hu; subst hu; rfl) (by unfold maxLen; omega) (by omega) (by have := HBB.out; simp; omega) ?_; intro a3 c3 w6 hown3 t31 t32 t33 hb3 hg3; have hko : KeptO (fun k_ t_ => t_ = 5) wr w6 := (KeptO.below (balloc hb5w _)).trans (KeptO.grown (owns_below HO.out (balloc hb5w _) (Nat.le_refl _)) hg3 fun m hm => rfl); have hw6 := (hko.2 gq _ _ _ xq (fun h_ => absurd (show (26 : Nat) = 5 from h_) (by decide))).trans xq; have s0 := cell_of_heap hw6 0; simp only [List.getElem?_toArray, List.getElem?_cons_zero] at s0; have sf := fun o => froz_of_heap hw6 o; have HO6 := Lib.hid hown3; have HW6 := Lib.hid hw6; have HKO := Lib.hid hko; have HB6 := Lib.hid (HB.out.trans ((balloc hb5w (Obj.cells #[.int .u8 (x : Nat)] 5)).mono hzr |>.trans (hb3.mono (by have := HBB.out; omega)))); clear hown3 t31 t32 t33 hb3 hg3 hw6; dsimp only [Act.put]; simp only [List.setIfInBounds_toArray, List.set_cons_succ, List.set_cons_zero])) | (go_wp2_with (first | (go_at_call 8; (with_reducible refine (HCJ.out _ HBD.out).mono ?_); rintro e w5 ⟨rfl, hb5⟩; have hb5w : Below wr.heap.size wr w5 := (bdrew1 (brefl wr)).trans (hb5.mono (by simp)); have hz5 := hb5w.size; have hko5 : KeptO (fun k_ t_ => t_ = 5) wr w5 := KeptO.below hb5w)))); refine HK_.out _ _ (kepP_ofA) ?_; clear HK_)
      (refine z_run (by simp only [List.getElem?_toArray, List.getElem?_cons_succ, List.getElem?_cons_zero]; rfl) (by rfl) (by rfl) (fun K_ hK_ => ?_); have HK_ := Lib.hid hK_; clear hK_; (first | ((refine wpAppO _ _ 22 rfl B 5 (.int .u8 0) 1 1 Try.underlying22 u8_info rfl (by decide) _ j (bytesV (clsQ bs rs j)) rfl (owns_below HO.out (balloc hb5w _) (Nat.le_refl _)) ⟨w5.heap.size, 0, none⟩ 1 1 [.int .u8 (x : Nat)] rfl rfl (has_alloc _ _ _) (fun u hu => by simp at hu; subst hu; rfl) (by unfold maxLen; omega) (by omega) (by have := HBB.out; simp; omega) ?_; intro a3 c3 w6 hown3 t31 t32 t33 hb3 hg3; have hko : KeptO (fun k_ t_ => t_ = 5) wr w6 := (KeptO.below (balloc hb5w _)).trans (KeptO.grown (owns_below HO.out (balloc hb5w _) (Nat.le_refl _)) hg3 fun m hm => rfl); have hw6 := (hko.2 gq _ _ _ xq (fun h_ => absurd (show (26 : Nat) = 5 from h_) (by decide))).trans xq; have s0 := cell_of_heap hw6 0; simp only [List.getElem?_toArray, List.getElem?_cons_zero] at s0; have sf := fun o => froz_of_heap hw6 o; have HO6 := Lib.hid hown3; have HW6 := Lib.hid hw6; have HKO := Lib.hid hko; have HB6 := Lib.hid (HB.out.trans ((balloc hb5w (Obj.cells #[.int .u8 (x : Nat)] 5)).mono hzr |>.trans (hb3.mono (by have := HBB.out; omega)))); clear hown3 t31 t32 t33 hb3 hg3 hw6; dsimp only [Act.put]; simp only [List.setIfInBounds_toArray, List.set_cons_succ, List.set_cons_zero])) | (go_wp2_with (first | (go_at_call 8; (with_reducible refine (HCJ.out _ HBD.out).mono ?_); rintro e w5 ⟨rfl, hb5⟩; have hb5w : Below wr.heap.size wr w5 := (bdrew1 (brefl wr)).trans (hb5.mono (by simp)); have hz5 := hb5w.size; have hko5 : KeptO (fun k_ t_ => t_ = 5) wr w5 := KeptO.below hb5w)))); refine HK_.out _ _ (kepP_ofA) ?_; clear HK_)
      (refine z_quiet (by simp only [List.getElem?_toArray, List.getElem?_cons_succ, List.getElem?_cons_zero]; rfl) (by rfl) (by rfl) (fun K_ hK_ => ?_); go_big_quiet_op; refine hK_ _ ?_; clear hK_ K_)
      (refine z_last (by simp only [List.getElem?_toArray, List.getElem?_cons_succ, List.getElem?_cons_zero]; rfl) (by rfl) (by rfl) (by rfl) (fun K_ hK_ => ?_); have HK_ := Lib.hid hK_; clear hK_; (first | ((refine wpAppO _ _ 22 rfl B 5 (.int .u8 0) 1 1 Try.underlying22 u8_info rfl (by decide) _ j (bytesV (clsQ bs rs j)) rfl (owns_below HO.out (balloc hb5w _) (Nat.le_refl _)) ⟨w5.heap.size, 0, none⟩ 1 1 [.int .u8 (x : Nat)] rfl rfl (has_alloc _ _ _) (fun u hu => by simp at hu; subst hu; rfl) (by unfold maxLen; omega) (by omega) (by have := HBB.out; simp; omega) ?_; intro a3 c3 w6 hown3 t31 t32 t33 hb3 hg3; have hko : KeptO (fun k_ t_ => t_ = 5) wr w6 := (KeptO.below (balloc hb5w _)).trans (KeptO.grown (owns_below HO.out (balloc hb5w _) (Nat.le_refl _)) hg3 fun m hm => rfl); have hw6 := (hko.2 gq _ _ _ xq (fun h_ => absurd (show (26 : Nat) = 5 from h_) (by decide))).trans xq; have s0 := cell_of_heap hw6 0; simp only [List.getElem?_toArray, List.getElem?_cons_zero] at s0; have sf := fun o => froz_of_heap hw6 o; have HO6 := Lib.hid hown3; have HW6 := Lib.hid hw6; have HKO := Lib.hid hko; have HB6 := Lib.hid (HB.out.trans ((balloc hb5w (Obj.cells #[.int .u8 (x : Nat)] 5)).mono hzr |>.trans (hb3.mono (by have := HBB.out; omega)))); clear hown3 t31 t32 t33 hb3 hg3 hw6; dsimp only [Act.put]; simp only [List.setIfInBounds_toArray, List.set_cons_succ, List.set_cons_zero])) | (go_wp2_with (first | (go_at_call 8; (with_reducible refine (HCJ.out _ HBD.out).mono ?_); rintro e w5 ⟨rfl, hb5⟩; have hb5w : Below wr.heap.size wr w5 := (bdrew1 (brefl wr)).trans (hb5.mono (by simp)); have hz5 := hb5w.size; have hko5 : KeptO (fun k_ t_ => t_ = 5) wr w5 := KeptO.below hb5w)))); refine HK_.out _ _ ?_; clear HK_)
      refine z_nil ?_
      clear hK0_
      go_wp2_with fail
      go_roundw
      case rel =>
        refine ⟨j + 1, a3, c3, by omega, by go_num, set_heap_at _ HW6.out, ?_, HB6.out.setCell (by have := HBB.out; show w11.heap.size ≤ gq; omega) _⟩
        exact set_owns _ (owns_eq HO6.out (by rw [HSN.out, bytesV_snoc _ _ (by omega)])) (own_neE HO6.out HW6.out (by decide))
      case measure => simp only [intOf]; omega
    · obtain rfl : j = 40 := by omega
      clear HCLT
      go_wp2_with (first | (go_at_call 6; (with_reducible refine (HST1.out _ HB.out).mono ?_); rintro e w41 ⟨rfl, hb41⟩; have h41c := bc hb41; have h41f := bf hb41; have h41z := hb41.size; try simp only [World.size_alloc, World.size_drew] at h41z))
      have HB41 := Lib.hid (HB.out.trans (hb41.mono hzr))
      have xq1 := (hb41.block gq hgr).trans xq
      have HO1 := Lib.hid (owns_below HO.out hb41 (Nat.le_refl _))
      have HX1 := Lib.hid xq1
      clear hb41 h41c h41f h41z xq xq1 HO HB hgr hzr HXQ HBV
      rename Option Addr => aQ
      rename Nat => cQ
      go_loopw [104] (fun i wr => ∃ (s E : Nat) (aR : Option Addr) (cR : Nat) (rv : List Value) (aE : Option Addr) (cE : Nat), s ≤ S ∧ i = .int .i64 (s : Nat) ∧ E = s * C ∧ wr.heap[gq]? = some (.cells #[.slice aQ 40 cQ, .slice aR s cR, .slice aE E cE, .int .u8 ((C : Int) - 4)] 26 (0, 0)) ∧ wr.ownsRow B 5 1 (.slice aQ 40 cQ) 40 (bytesV (clsQ bs rs 40)) ∧ wr.ownsRow B 22 1 (.slice aR s cR) s rv ∧ QRows B C s rv wr ∧ wr.ownsRow B 28 4 (.slice aE E cE) E ((entsQ bs E).flatMap entC4) ∧ Below w11.heap.size w11 wr) (fun i _ => S - (intOf i).toNat)
      case atStart => exact ⟨0, 0, none, 0, [], none, 0, Nat.zero_le _, rfl, by simp, HX1.out, HO1.out, World.ownsRow_nil _ _ _ _, ⟨rfl, fun i hi => absurd hi (by omega)⟩, World.ownsRow_nil _ _ _ _, HB41.out⟩
      case round =>
        obtain ⟨s, E, aR, cR, rv, aE, cE, hs, rfl, hE, xq, hoC, hoR, hQ, hoE, hb⟩ := hrel
        rename World => wr
        have HOC := Lib.hid hoC
        have HOR := Lib.hid hoR
        have HQR := Lib.hid hQ
        have HOE := Lib.hid hoE
        have HB := Lib.hid hb
        have HE := Lib.hid hE
        have hzr := hb.size
        have hgr := (Array.getElem?_eq_some_iff.1 xq).1
        clear hoC hoR hQ hoE hb
        by_cases hlt : s < S
        · have d8 : decide ((s : Int) < (S : Int)) = true := by simpa using hlt
          have hEC : E + C ≤ P := by
            rw [hE, HP.out, ← Nat.succ_mul]
            exact Nat.mul_le_mul_right _ hlt
          clear hE
          go_wp2_with (first | (go_at_call 7; (with_reducible refine (HCL1.out _ HB.out).mono ?_); rintro e w51 ⟨rfl, hb51⟩; have h51c := bc hb51; have h51f := bf hb51; have h51z := hb51.size; try simp only [World.size_alloc, World.size_drew] at h51z))
          have xs := (hb51.block gq hgr).trans xq
          have HXS := Lib.hid xs
          have HOC1 := Lib.hid (owns_below HOC.out hb51 (Nat.le_refl _))
          have HOR1 := Lib.hid (owns_below HOR.out hb51 (Nat.le_refl _))
          have HOE1 := Lib.hid (owns_below HOE.out hb51 (Nat.le_refl _))
          have HQR1 := Lib.hid (HQR.out.below hb51)
          have HB51 := Lib.hid (HB.out.trans (hb51.mono hzr))
          have hz51 : w11.heap.size ≤ w51.heap.size := by omega
          obtain ⟨Z, hZ⟩ : ∃ Z, Z = w51.heap.size := ⟨_, rfl⟩
          have hgz : gq < Z := by omega
          have HZ := Lib.hid hZ
          have hBZ : B ≤ Z := by have := HBB.out; omega
          clear hb51 h51c h51f h51z xs xq HOC HOR HOE HQR HB hgr hzr hZ
          go_loopw [11, 109] (fun v i wz => ∃ (c : Nat) (a1 : Option Addr) (c1 : Nat) (aF : Option Addr) (cF : Nat), c ≤ C ∧ v = .slice a1 c c1 ∧ i = .int .i64 (c : Nat) ∧ wz.heap[gq]? = some (.cells #[.slice aQ 40 cQ, .slice aR s cR, .slice aF (E + c) cF, .int .u8 ((C : Int) - 4)] 26 (0, 0)) ∧ wz.ownsRow Z 5 1 (.slice a1 c c1) c (bytesV (rowQ C s c)) ∧ wz.ownsRow B 28 4 (.slice aF (E + c) cF) (E + c) ((entsQ bs (E + c)).flatMap entC4) ∧ KeptO (ownQ Z) w51 wz ∧ Below w11.heap.size w11 wz) (fun _ i _ => C - (intOf i).toNat)
          case atStart => exact ⟨0, none, 0, aE, cE, Nat.zero_le _, rfl, rfl, HXS.out, World.ownsRow_nil _ _ _ _, HOE1.out, KeptO.refl _ _, HB51.out⟩
          case round =>
            obtain ⟨c, a1, c1, aF, cF, hc, rfl, rfl, xq, hoV, hoE, hk, hb⟩ := hrel
            rename World => wz
            have HOV := Lib.hid hoV
            have HOE := Lib.hid hoE
            have HKO := Lib.hid hk
            have HB := Lib.hid hb
            have HXQ := Lib.hid xq
            have hzr := hb.size
            have hgr := (Array.getElem?_eq_some_iff.1 xq).1
            have hkz : Z ≤ wz.heap.size := by rw [HZ.out]; exact hk.1
            clear hoV hoE hk hb
            by_cases hcl : c < C
            · have d9 : decide ((c : Int) < (C : Int)) = true := by simpa using hcl
              have hst := HSTP.out wz HB.out s c hlt (by rw [← HC.out]; exact hcl)
              rw [← HC.out, ← HE.out, entA_entQ] at hst
              have HES := Lib.hid (entsQ_snoc bs (E + c))
              have HRS := Lib.hid (rowQ_succ C s c)
              rw [← HE.out] at HRS
              obtain ⟨⟨e0, e1, e2, e3⟩, he⟩ : ∃ e, e = entQ bs (E + c) := ⟨_, rfl⟩
              rw [← he] at hst HES
              simp only at hst
              have HST := Lib.hid hst
              have x2 := cell_of_heap xq 2
              simp only [List.getElem?_toArray, List.getElem?_cons_succ, List.getElem?_cons_zero] at x2
              clear hst he xq
              go_wp2_with (first | (go_at_call 9; (with_reducible refine HST.out.mono ?_); rintro e w61 ⟨rfl, hb61⟩; have h61c := bc hb61; have h61f := bf hb61; have h61z := hb61.size) | (at_builtin; have bA : Below wz.heap.size wz ((w61.alloc (Obj.cells #[.int .i64 e0, .int .i64 e1, .int .i64 e2, .int .i64 e3] 28)).alloc (Obj.cells #[.int .u8 ((E : Int) + (c : Int))] 5)) := balloc (balloc hb61 _) _; have hAq := (bA.block gq hgr).trans HXQ.out; have hA13 : ((w61.alloc (Obj.cells #[.int .i64 e0, .int .i64 e1, .int .i64 e2, .int .i64 e3] 28)).alloc (Obj.cells #[.int .u8 ((E : Int) + (c : Int))] 5)).heap[w61.heap.size]? = some (.cells #[.int .i64 e0, .int .i64 e1, .int .i64 e2, .int .i64 e3] 28 (0, 0)) := by { rw [heap_push, if_neg (by simp), heap_push, if_pos rfl] }; refine wpApp rfl _ _ 22 rfl Z 5 (.int .u8 0) 1 1 Try.underlying22 u8_info rfl (by decide) _ c (bytesV (rowQ C s c)) rfl (owns_below HOV.out bA (Nat.le_refl _)) (some ⟨w61.heap.size + 1, 0, none⟩) 1 1 [.int .u8 ((E : Int) + (c : Int))] rfl rfl (has_at _ _ _ _ (by simp)) (fun h => by cases h) (fun u hu => by simp at hu; subst hu; rfl) (by unfold maxLen; omega) (by omega) (by simp; omega) ?_; intro a7 c7 w7 hown7 k71 k72 k73 hb7 hg7; have hk7 : KeptO (fun k t => t = 5 ∧ Z ≤ k) ((w61.alloc (Obj.cells #[.int .i64 e0, .int .i64 e1, .int .i64 e2, .int .i64 e3] 28)).alloc (Obj.cells #[.int .u8 ((E : Int) + (c : Int))] 5)) w7 := KeptO.grown (owns_below HOV.out bA (Nat.le_refl _)) hg7 (fun m hm => ⟨rfl, (HOV.out.lt m hm.symm).1⟩); have h7q := (hk7.2 gq _ _ _ hAq (fun h_ => by have := h_.2; omega)).trans hAq; have h713 := (hk7.2 w61.heap.size _ _ _ hA13 (fun h_ => absurd h_.1 (by decide))).trans hA13; have HOV7 := Lib.hid hown7; have HBA := Lib.hid bA; have HK7 := Lib.hid hk7; have H7Q := Lib.hid h7q; have HB7 := Lib.hid hb7; have q2 := cell_of_heap h7q 2; have q13 := fun o => cell_of_heap h713 o; have f7 := fun o => froz_of_heap h7q o; simp only [List.getElem?_toArray, List.getElem?_cons_succ, List.getElem?_cons_zero] at q2; have hz7 := hk7.1; simp only [World.size_alloc] at hz7; clear hown7 hb7 hg7 hk7 h7q h713 bA hAq hA13 h61c h61f) | (at_builtin; have oE7 := HK7.out.owns (owns_below HOE.out HBA.out (Nat.le_refl _)) (fun k h_ => absurd h_.1 (by decide)); have bE : Below w7.heap.size w7 (w7.alloc (Obj.cells #[.int .i64 e0, .int .i64 e1, .int .i64 e2, .int .i64 e3] 28)) := balloc (brefl w7) _; refine wpApp rfl _ _ 24 rfl B 28 (.agg #[.int .i64 0, .int .i64 0, .int .i64 0, .int .i64 0]) 4 32 Try.underlying24 info_entry rfl (by decide) _ (E + c) ((entsQ bs (E + c)).flatMap entC4) rfl (owns_below oE7 bE (Nat.le_refl _)) (some ⟨w7.heap.size, 0, none⟩) 1 1 (entC4 (e0, e1, e2, e3)) rfl rfl (has_at _ _ _ _ rfl) (fun h => by cases h) (fun u hu => by simp [entC4] at hu; rcases hu with rfl | rfl | rfl | rfl <;> rfl) (by unfold maxLen; omega) (by omega) (by simp; omega) ?_; intro a8 c8 w8 hown8 k81 k82 k83 hb8 hg8; have hk8 : KeptO (fun k t => t = 28) (w7.alloc (Obj.cells #[.int .i64 e0, .int .i64 e1, .int .i64 e2, .int .i64 e3] 28)) w8 := KeptO.grown (owns_below oE7 bE (Nat.le_refl _)) hg8 (fun m hm => rfl); have h8a := (bE.block gq (by omega)).trans H7Q.out; have h8q := (hk8.2 gq _ _ _ h8a (fun h_ => absurd (show (26 : Nat) = 28 from h_) (by decide))).trans h8a; have HOE8 := Lib.hid hown8; have HOV8 := Lib.hid (hk8.owns (owns_below HOV7.out bE (Nat.le_refl _)) (fun k h_ => absurd (show (5 : Nat) = 28 from h_) (by decide))); have HK8 := Lib.hid ((KeptO.below bE).trans (hk8.weak (own' := ownQ Z) (fun k t h_ => .inr (.inl h_)))); have H8Q := Lib.hid h8q; have HB8 := Lib.hid (((bE.mono (by omega)) : Below B w7 _).trans hb8); have s8 := cell_of_heap h8q 2; have f8 := fun o => froz_of_heap h8q o; simp only [List.getElem?_toArray, List.getElem?_cons_succ, List.getElem?_cons_zero] at s8; clear hown8 hb8 hg8 hk8 h8q h8a bE oE7 q2 q13 f7))
              go_roundw
              case rel =>
                refine ⟨c + 1, a7, c7, a8, c8, by omega, rfl, by go_num, set_heap_at _ H8Q.out, ?_, ?_, ?_, ?_⟩
                · exact set_owns _ (owns_eq HOV8.out (by rw [HRS.out, bytesV_snoc _ _ (by omega), Int.natCast_add])) (own_neE HOV8.out H8Q.out (by decide))
                · exact set_owns _ (owns_eq HOE8.out (by rw [show E + (c + 1) = E + c + 1 from rfl, HES.out])) (own_neE HOE8.out H8Q.out (by decide))
                · exact (((HKO.out.trans (KeptO.below HBA.out)).trans (HK7.out.weak (fun k t h_ => .inl h_))).trans HK8.out).put H8Q.out (.inr (.inr rfl)) _
                · have hBB := HBB.out
                  have hzA := HBA.out.size
                  exact (((HB.out.trans (HBA.out.mono hzr)).trans (HB7.out.mono (by omega))).trans (HB8.out.mono (by omega))).setCell (by show w11.heap.size ≤ gq; omega) _
              case measure => simp only [intOf]; omega
            · have hcC : C = c := by omega
              subst hcC
              have d9 : decide ((C : Int) < (C : Int)) = false := by simp
              have HOR := Lib.hid (HKO.out.owns HOR1.out (fun k h_ => by rcases h_ with h_ | h_ | h_ <;> first | exact absurd h_.1 (by decide) | exact absurd h_ (by decide)))
              have HOC := Lib.hid (HKO.out.ownsB HOC1.out (fun k hkk h_ => by
                have := HZ.out
                rcases h_ with h_ | h_ | h_
                · omega
                · exact absurd h_ (by decide)
                · exact absurd h_ (by decide)))
              have HQR := Lib.hid (HQR1.out.keep HKO.out (by have := HZ.out; omega))
              have x1 := cell_of_heap xq 1
              simp only [List.getElem?_toArray, List.getElem?_cons_succ, List.getElem?_cons_zero] at x1
              clear xq
              go_wp2_with (at_builtin; have bA : Below wz.heap.size wz (wz.alloc (Obj.cells #[.slice a1 C c1] 22)) := balloc (brefl wz) _; refine wpApp rfl _ _ 23 rfl B 22 (.slice none 0 0) 1 24 Try.underlying23 info_rowsQ rfl (by decide) _ s rv rfl (owns_below HOR.out bA (Nat.le_refl _)) (some ⟨wz.heap.size, 0, none⟩) 1 1 [.slice a1 C c1] rfl rfl (has_at _ _ _ _ rfl) (fun h => by cases h) (fun u hu => by simp at hu; subst hu; rfl) (by unfold maxLen; omega) (by omega) (by simp; omega) ?_; intro a9 c9 w9 hown9 k91 k92 k93 hb9 hg9; have hk9 : KeptO (fun k t => t = 22) (wz.alloc (Obj.cells #[.slice a1 C c1] 22)) w9 := KeptO.grown (owns_below HOR.out bA (Nat.le_refl _)) hg9 (fun m hm => rfl); have h9a := (bA.block gq (by omega)).trans HXQ.out; have h9q := (hk9.2 gq _ _ _ h9a (fun h_ => absurd (show (26 : Nat) = 22 from h_) (by decide))).trans h9a; have HOR9 := Lib.hid hown9; have HBA := Lib.hid bA; have HK9 := Lib.hid hk9; have H9Q := Lib.hid h9q; have HB9 := Lib.hid (((bA.mono (by omega)) : Below B wz _).trans hb9); have s9 := cell_of_heap h9q 1; have f9 := fun o => froz_of_heap h9q o; simp only [List.getElem?_toArray, List.getElem?_cons_succ, List.getElem?_cons_zero] at s9; clear hown9 hb9 hg9 hk9 h9q h9a bA)
              have hne : ∀ (e : TypeId) (k : Nat), e ≠ 22 → ¬ (fun (k t : Nat) => t = 22) k e := fun e k h h_ => h h_
              go_roundw
              case rel =>
                refine ⟨s + 1, E + C, a9, c9, rv ++ [.slice a1 C c1], aF, cF, by omega, by go_num, by rw [HE.out, Nat.succ_mul], set_heap_at _ H9Q.out, ?_, ?_, ?_, ?_, ?_⟩
                · have h := HK9.out.owns (owns_below HOC.out HBA.out (Nat.le_refl _)) (hne _ · (by decide))
                  exact set_owns _ h (own_neE h H9Q.out (by decide))
                · exact set_owns _ HOR9.out (own_neE HOR9.out H9Q.out (by decide))
                · refine (HQR.out.snoc (owns_mono HOV.out hBZ)).owns fun v xs h => ?_
                  have h := HK9.out.owns (owns_below h HBA.out (Nat.le_refl _)) (hne _ · (by decide))
                  exact set_owns _ h (own_neE h H9Q.out (by decide))
                · have h := HK9.out.owns (owns_below HOE.out HBA.out (Nat.le_refl _)) (hne _ · (by decide))
                  exact set_owns _ h (own_neE h H9Q.out (by decide))
                · have hBB := HBB.out
                  exact (HB.out.trans (HB9.out.mono (by omega))).setCell (by show w11.heap.size ≤ gq; omega) _
              case measure => simp only [intOf]; omega
        · have hsS : S = s := by omega
          subst hsS
          have d8 : decide ((S : Int) < (S : Int)) = false := by simp
          have hE4 : S * num bs 0 4 = E := by rw [HE.out, HC.out]
          have hpl : PlanHas wr (planQ bs rs S) aQ aR rv aE := by
            refine ⟨has_of_owns HOC.out, has_of_owns HOR.out, HQR.out.len.trans (planQ_rows bs rs S).symm, fun i r hr => ?_, ?_⟩
            · have hr' : (rowsQ (num bs 0 4) S)[i]? = some r := hr
              simp only [rowsQ, List.getElem?_map] at hr'
              by_cases hi : i < S
              · rw [List.getElem?_range hi] at hr'
                simp only [Option.map_some, Option.some.injEq] at hr'
                obtain ⟨ai, ci, h1, h2⟩ := HQR.out.each i hi
                subst hr'
                rw [← HC.out, show (rowQ C i C).length = C by simp [rowQ]]
                exact ⟨ai, ci, h1, has_of_owns h2⟩
              · rw [List.getElem?_eq_none (by simpa using hi)] at hr'
                cases hr'
            · have := has_of_owns HOE.out
              rw [← hE4] at this
              exact this
          have hwq := fun W (hW : Below wr.heap.size wr W) => writeQ HQ.out HOK.out.least.closed.1 ((C : Int) - 4) (by rw [← HC.out]; omega) aQ aR aE rv cQ cR cE W (hpl.below hW)
          rw [hE4] at hwq
          obtain ⟨S', hS', hok'⟩ := planQ_ok (rs := rs) HQ.out HOK.out.least.closed
          have hown' := fun i (hi : i < E) => planQ_own (rs := rs) HQ.out (show i < S * num bs 0 4 by rw [hE4]; exact hi)
          have hent' := fun i (hi : i < E) => planQ_entA (rs := rs) HQ.out (show i < S * num bs 0 4 by rw [hE4]; exact hi)
          have hcls' := fun id hid => planQ_class (rs := rs) (S := S) HQ.out id hid
          have hn' : num (planB (planQ bs rs S) 2 0) 0 4 = C := by rw [plan_cls, planQ_n _ _ _ (by rw [← HC.out]; exact hq4) (by rw [← HC.out]; exact hq11), HC.out]
          obtain ⟨pb, hpb⟩ : ∃ pb, pb = planB (planQ bs rs S) 2 0 := ⟨_, rfl⟩
          obtain ⟨rq, hrq⟩ : ∃ rq, rq = rowsT 0 40 6 2 := ⟨_, rfl⟩
          rw [← hpb] at hown' hent' hcls' hn' hwq hok'
          rw [← hrq] at hcls' hok'
          have HWQ := Lib.hid hwq
          have HOWN := Lib.hid hown'
          have HENT := Lib.hid hent'
          have HCLQ := Lib.hid hcls'
          have HNQ := Lib.hid hn'
          have HOKQ := Lib.hid hok'
          have hS2 : S' ≤ 65536 := by omega
          have hfit2 := hok'.lk.fit (by decide) (.inl rfl)
          have HFIT2 := Lib.hid hfit2
          have q0 := cell_of_heap xq 0
          have q1 := cell_of_heap xq 1
          have q2 := cell_of_heap xq 2
          have q3 := cell_of_heap xq 3
          simp only [List.getElem?_toArray, List.getElem?_cons_succ, List.getElem?_cons_zero] at q0 q1 q2 q3
          have d10 : decide ((S : Int) < (S' : Int)) = false := by simp; omega
          clear hpl hwq hown' hent' hcls' hn' hok' hfit2 hpb hrq hE xq
          go_wp2_with (first
            | (go_at_call 5; (with_reducible refine (HWQ.out _ (brefl _)).mono ?_); rintro e w61 ⟨a61, c61, rfl, hown, k61, k62, hb61⟩; have HH61 := Lib.hid (has_of_owns hown); have HB61 := Lib.hid (HB.out.trans (hb61.mono hzr)); clear hown hb61)
            | (go_at_call 4; refine (mread_some a61 pb.length c61 pb 40 2 40 2 rfl rfl rq S' w61 HH61.out rfl k61 k62 (by decide) (by decide) (by decide) HOKQ.out).mono ?_; rintro e w62 ⟨g2, rfl, hM2, hb62⟩; have HM2 := Lib.hid hM2; have HB62 := Lib.hid (HB61.out.trans (hb62.mono HB61.out.size)); have hz62 := HB62.out.size; clear hM2 hb62)
            | (go_at_call 6; (with_reducible refine (states_any w61.heap.size g2 pb 2 rq S' w62 HM2.out).mono ?_); rintro e w63 ⟨rfl, hb63⟩; have HB63 := Lib.hid (HB62.out.trans (hb63.mono hz62)); have HL63 := Lib.hid hb63; clear hb63)
            | (go_at_call 6; (with_reducible refine (HST1.out w63 HB63.out).mono ?_); rintro e w64 ⟨rfl, hb64⟩; have HB64 := Lib.hid (HB63.out.trans (hb64.mono HB63.out.size)); have HL64 := Lib.hid (bthen HL63.out hb64); clear hb64)
            | (go_at_call 6; (with_reducible refine (states_any w61.heap.size g2 pb 2 rq S' w64 (HM2.out.below HL64.out)).mono ?_); rintro e w65 ⟨rfl, hb65⟩; have HB65 := Lib.hid (HB64.out.trans (hb65.mono HB64.out.size)); have HL65 := Lib.hid (bthen HL64.out hb65); clear hb65))
          have HBW := Lib.hid (fun W (hW : Below w62.heap.size w62 W) => HB62.out.trans (hW.mono hz62))
          have HCLO := Lib.hid (fun W (hW : Below w62.heap.size w62 W) => classes_any w61.heap.size g2 pb 2 rq S' W (HM2.out.below hW))
          rw [HNQ.out] at HCLO
          have HSTO := Lib.hid (fun W (hW : Below w62.heap.size w62 W) s c (hs : s < S') (hc : c < C) (hi : s * C + c < E) => show Calls Try.prog 9 #[.pointer (some ⟨g2, 0, none⟩), .int .i64 (s : Nat), .int .i64 (c : Nat)] W fun e w' => e = .returned (.tuple #[.agg #[.int .i64 (entQ bs (s * C + c)).1, .int .i64 (entQ bs (s * C + c)).2.1, .int .i64 (entQ bs (s * C + c)).2.2.1, .int .i64 (entQ bs (s * C + c)).2.2.2], .bool true]) ∧ Below W.heap.size W w' from by
            have h := step_yes w61.heap.size g2 pb 2 rq S' s c W (HM2.out.below hW) hS2 hs (by rw [HNQ.out]; exact hc)
            rw [HNQ.out, HOWN.out _ hi, HENT.out _ hi, entA_entQ] at h
            exact h)
          have HSTM := Lib.hid (fun W (hW : Below w62.heap.size w62 W) s c (hs : s < S) (hc : c < C) => show Calls Try.prog 9 #[.pointer (some ⟨g1, 0, none⟩), .int .i64 (s : Nat), .int .i64 (c : Nat)] W fun e w' => e = .returned (.tuple #[.agg #[.int .i64 (entQ bs (s * C + c)).1, .int .i64 (entQ bs (s * C + c)).2.1, .int .i64 (entQ bs (s * C + c)).2.2.1, .int .i64 (entQ bs (s * C + c)).2.2.2], .bool true]) ∧ Below W.heap.size W w' from by
            have h := HSTP.out W (HBW.out W hW) s c hs (by rw [← HC.out]; exact hc)
            rw [← HC.out, entA_entQ] at h
            exact h)
          have HKO' := Lib.hid (fun W (hW : Below w62.heap.size w62 W) (id : Nat) (hid : id < 40) => show Calls Try.prog 8 #[.pointer (some ⟨g2, 0, none⟩), .int .i64 (id : Nat)] W fun e w' => e = .returned (.int .i64 (classM bs rs (id : Nat) : Nat)) ∧ Below W.heap.size W w' from by
            have h := class_any w61.heap.size g2 pb 2 rq S' (id : Nat) W (HM2.out.below hW) HFIT2.out (by omega)
            rw [HCLQ.out id hid] at h
            exact h)
          have HKM := Lib.hid (fun W (hW : Below w62.heap.size w62 W) (id : Nat) (hid : id < 40) => HCLS.out W (HBW.out W hW) ((id : Nat) : Int) (by omega))
          have hEl := fun s c (hs : s < S) (hc : c < C) => show s * C + c < E from by
            rw [HE.out]
            have h1 : (s + 1) * C ≤ S * C := Nat.mul_le_mul_right _ hs
            rw [Nat.succ_mul] at h1
            omega
          have HEL := Lib.hid hEl
          clear q0 q1 q2 q3 hEl
          go_loopw [161] (fun i wz => ∃ s : Nat, s ≤ S' ∧ i = .int .i64 (s : Nat) ∧ Below w62.heap.size w62 wz) (fun i _ => S' - (intOf i).toNat)
          case atStart => exact ⟨0, Nat.zero_le _, rfl, HL65.out⟩
          case round =>
            obtain ⟨s, hs, rfl, hb⟩ := hrel
            rename World => wz
            have HBZ := Lib.hid hb
            have hzz := hb.size
            clear hb
            by_cases hsl : s < S'
            · have d11 : decide ((s : Int) < (S' : Int)) = true := by simpa using hsl
              go_wp2_with (first | (go_at_call 7; (with_reducible refine (HCLO.out _ HBZ.out).mono ?_); rintro e w71 ⟨rfl, hb71⟩; have h71c := bc hb71; have h71f := bf hb71; have h71z := hb71.size; try simp only [World.size_alloc, World.size_drew] at h71z))
              have HB71 := Lib.hid (HBZ.out.trans (hb71.mono hzz))
              clear hb71 h71c h71f h71z
              go_loopw [166] (fun i wy => ∃ c : Nat, c ≤ C ∧ i = .int .i64 (c : Nat) ∧ Below w62.heap.size w62 wy) (fun i _ => C - (intOf i).toNat)
              case atStart => exact ⟨0, Nat.zero_le _, rfl, HB71.out⟩
              case round =>
                obtain ⟨c, hc, rfl, hb⟩ := hrel
                rename World => wy
                have HBY := Lib.hid hb
                have hzy := hb.size
                clear hb
                by_cases hcl : c < C
                · have d12 : decide ((c : Int) < (C : Int)) = true := by simpa using hcl
                  have HS1 := Lib.hid (HSTM.out wy HBY.out s c (by omega) hcl)
                  have HS2 := Lib.hid (fun W hW => HSTO.out W hW s c hsl hcl (HEL.out s c (by omega) hcl))
                  generalize entQ bs (s * C + c) = eq at HS1 HS2
                  obtain ⟨e0, e1, e2, e3⟩ := eq
                  simp only at HS1 HS2
                  go_wp2_with (first
                    | (go_at_call 9; (with_reducible refine HS1.out.mono ?_); rintro e w72 ⟨rfl, hb72⟩; have h72z := hb72.size; have HB72 := Lib.hid ((HBY.out.trans (hb72.mono hzy)).alloc (by omega) (Obj.cells #[.int .i64 e0, .int .i64 e1, .int .i64 e2, .int .i64 e3] 28)); clear hb72)
                    | (go_at_call 9; (with_reducible refine (HS2.out _ HB72.out).mono ?_); rintro e w73 ⟨rfl, hb73⟩; have h73c := bc hb73; have h73z := hb73.size; simp only [World.size_alloc] at h73z; have HB73 := Lib.hid (HB72.out.trans (hb73.mono HB72.out.size)); clear hb73))
                  go_roundw
                  case rel => exact ⟨c + 1, hcl, by go_num, HB73.out.alloc HB73.out.size _⟩
                  case measure => simp only [intOf]; omega
                · have hcC : C = c := by omega
                  subst hcC
                  have d12 : decide ((C : Int) < (C : Int)) = false := by simp
                  go_wp2_with fail
                  go_roundw
                  case rel => exact ⟨s + 1, hsl, by go_num, HBY.out⟩
                  case measure => simp only [intOf]; omega
            · have hsS : S' = s := by omega
              subst hsS
              have d11 : decide ((S' : Int) < (S' : Int)) = false := by simp
              go_wp2_with fail
              go_loopw [196] (fun i wy => ∃ id : Nat, id ≤ 40 ∧ i = .int .i64 (id : Nat) ∧ Below w62.heap.size w62 wy) (fun i _ => 40 - (intOf i).toNat)
              case atStart => exact ⟨0, Nat.zero_le _, rfl, HBZ.out⟩
              case round =>
                obtain ⟨id, hid, rfl, hb⟩ := hrel
                rename World => wy
                have HBY := Lib.hid hb
                have hzy := hb.size
                clear hb
                by_cases hil : id < 40
                · have d13 : decide ((id : Int) < 40) = true := by simp; omega
                  have HK1 := Lib.hid (HKO'.out wy HBY.out id hil)
                  have HK2 := Lib.hid (fun W hW => HKM.out W hW id hil)
                  generalize classM bs rs (id : Nat) = x at HK1 HK2
                  have dx : ((x : Int) != (x : Int)) = false := by simp
                  go_wp2_with (first
                    | (go_at_call 8; (with_reducible refine HK1.out.mono ?_); rintro e w81 ⟨rfl, hb81⟩; have HB81 := Lib.hid (HBY.out.trans (hb81.mono hzy)); clear hb81)
                    | (go_at_call 8; (with_reducible refine (HK2.out _ HB81.out).mono ?_); rintro e w82 ⟨rfl, hb82⟩; have HB82 := Lib.hid (HB81.out.trans (hb82.mono HB81.out.size)); clear hb82))
                  go_roundw
                  case rel => exact ⟨id + 1, hil, by go_num, HB82.out⟩
                  case measure => simp only [intOf]; omega
                · have hiI : 40 = id := by omega
                  subst hiI
                  go_wp2_with fail
                  go_ret
                  exact ⟨rfl, HB11.out.trans ((HBW.out _ HBY.out).mono HB11.out.size)⟩
end Go.Proofs.Ythjnpfhcjacibaa
