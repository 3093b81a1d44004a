
/- The contract of (*width.Width).take. Conditions: a Width without rows; as many bytes as the slice says. -/
import Derived.Test.YthacabmnnpibkaaFaceT
import Derived.Test.YthacabmnnpibkaaKeptE
namespace Go.Proofs.Ythacabmnnpibkaa
open Go.RowKit Go.Lib

def tHmtx : ByteArray := { data := #[104, 109, 116, 120] }
def hmtxOk (bs : List UInt8) (g m i : Nat) : Prop := tagFound bs tHmtx.toList i ∧ 4 * m + 2 * (g - m) ≤ lenAt bs i
def advV (T : List UInt8) (k : Nat) : List Value := (List.range k).map fun i => .int .u16 (num T (4 * i) 2 : Nat)
def beaV (T : List UInt8) (k : Nat) : List Value := (List.range k).map fun i => .int .i16 (s16 (num T (4 * i + 2) 2))
def beaV2 (T : List UInt8) (m k : Nat) : List Value := (List.range k).map fun i => .int .i16 (s16 (num T (4 * m + 2 * i) 2))
def widV (g e m : Nat) (s1 s2 : Value) : Array Value := #[.int .i64 (g : Nat), .int .i64 (e : Nat), .int .i64 (m : Nat), s1, s2]
theorem u16_info : (Try.prog.info? 35).map (fun i => (i.zero, i.size, i.bytes)) = some (some (.int .u16 0), 1, 2) := by kernel_rfl
theorem i16_info : (Try.prog.info? 62).map (fun i => (i.zero, i.size, i.bytes)) = some (some (.int .i16 0), 1, 2) := by kernel_rfl

def WRel1 (B : Nat) (W : World) (gw g8 : Nat) (g e m : Nat) (A : Option Addr) (p C : Nat) (T : List UInt8) (i : Value) (wr : World) : Prop :=
  ∃ k a1 c1 a2 c2, k ≤ m ∧ i = .int .i64 (k : Nat) ∧ wr.heap[gw]? = some (.cells (widV g e m (.slice a1 k c1) (.slice a2 k c2)) 59 (0, 0)) ∧ wr.heap[g8]? = some (.cells #[.slice A p C] 75 (0, 0)) ∧
    wr.ownsRow W.heap.size 35 1 (.slice a1 k c1) k (advV T k) ∧ wr.ownsRow W.heap.size 62 1 (.slice a2 k c2) k (beaV T k) ∧ (a1 = none → c1 = 0) ∧ (a2 = none → c2 = 0) ∧ c1 ≤ maxLen ∧ c2 ≤ maxLen ∧ k ≤ c1 ∧ k ≤ c2 ∧ Same W [gw] wr ∧ Below B W wr
def WRel2 (B : Nat) (W : World) (gw g9 : Nat) (g e m : Nat) (A : Option Addr) (p C : Nat) (T : List UInt8) (a1 : Option Addr) (c1 : Nat) (i : Value) (wr : World) : Prop :=
  ∃ k a2 c2, k ≤ g - m ∧ i = .int .i64 (k : Nat) ∧ wr.heap[gw]? = some (.cells (widV g e m (.slice a1 m c1) (.slice a2 (m + k) c2)) 59 (0, 0)) ∧ wr.heap[g9]? = some (.cells #[.slice A p C] 75 (0, 0)) ∧
    wr.ownsRow W.heap.size 35 1 (.slice a1 m c1) m (advV T m) ∧ wr.ownsRow W.heap.size 62 1 (.slice a2 (m + k) c2) (m + k) (beaV T m ++ beaV2 T m k) ∧ (a2 = none → c2 = 0) ∧ c2 ≤ maxLen ∧ m + k ≤ c2 ∧ Same W [gw] wr ∧ Below B W wr
theorem has_same {w W : World} {a : Option Addr} {xs : List Value} {gw : Nat} (h : Has w a xs) (hs : Same w [gw] W) (hne : ∀ p, a = some p → p.block ≠ gw) : Has W a xs := by
  intro j u hu
  obtain ⟨p, hp, hc⟩ := h j u hu
  refine ⟨p, hp, ?_⟩
  rw [World.cell?_of_block (hs.block _ (cell_lt hc) (by rw [add_block]; simpa using hne p hp))]
  exact hc
theorem adv_ne {a : Option Addr} {c k gw : Nat} (hne : ∀ p, a = some p → p.block ≠ gw) : ∀ p, adv a c k = some p → p.block ≠ gw := by
  intro p hp
  unfold adv at hp
  split at hp
  · exact hne p hp
  · cases a with
    | none => cases hp
    | some q => cases hp; rw [add_block]; exact hne q rfl
def WDone (base gw g e m : Nat) (T : List UInt8) (w' : World) : Prop :=
  ∃ a1 c1 a2 c2, w'.heap[gw]? = some (.cells (widV g e m (.slice a1 m c1) (.slice a2 g c2)) 59 (0, 0)) ∧ w'.ownsRow base 35 1 (.slice a1 m c1) m (advV T m) ∧
    w'.ownsRow base 62 1 (.slice a2 g c2) g (beaV T m ++ beaV2 T m (g - m)) ∧ m ≤ c1 ∧ g ≤ c2 ∧ c1 ≤ maxLen ∧ c2 ≤ maxLen
theorem out_below {w w' : World} {B gw : Nat} (h : Below w.heap.size w w') (hB : B ≤ w.heap.size) : Same w [gw] w' ∧ Below B w w' := ⟨⟨h.size, fun k hk _ => h.block k hk⟩, h.mono hB⟩
set_option maxRecDepth 100000 in
set_option maxHeartbeats 3200000 in
theorem wtake_any (B gw : Nat) (a : Option Addr) (n c g e m : Nat) (bs : List UInt8) (w : World) (h : Has w a (bytesV bs)) (hl : bs.length = n) (hn : n ≤ c) (hc : c ≤ maxLen)
    (hgw : w.heap[gw]? = some (.cells (widV g e m (.slice none 0 0) (.slice none 0 0)) 59 (0, 0))) (hm : m ≤ g) (hg : g ≤ 65535) (hne : ∀ p, a = some p → p.block ≠ gw) (hB : B ≤ gw) :
    Calls Try.prog 27 #[.pointer (some ⟨gw, 0, none⟩), .slice a n c] w fun r w' => ((∃ i, hmtxOk bs g m i ∧ r = .returned (.tuple #[]) ∧ WDone w.heap.size gw g e m (tabB bs i) w') ∨ ((∀ i, ¬ hmtxOk bs g m i) ∧ r = .panicked thrown)) ∧ Same w [gw] w' ∧ Below B w w' := by
  have HH := Lib.hid h
  have HL := Lib.hid hl
  clear h hl
  have hAC := allocC
  have hlw := (Array.getElem?_eq_some_iff.1 hgw).1
  have HGW := Lib.hid hgw
  clear hgw
  go_enter Try.func27, Try.ntmps27
  go_wp2_with fail
  refine (find_any a n c bs tHmtx w HH.out HL.out hn hc).mono ?_
  rintro r w1 ⟨(⟨i, hi, rfl⟩ | ⟨hno, rfl⟩), hb1⟩
  case inr =>
    have HNO := Lib.hid hno
    have hz1 := hb1.size
    have HB1 := Lib.hid hb1
    clear hno hb1
    go_wp2_with (first | (go_at_call 41; refine (need_f _ (by rfl) _).mono ?_; rintro e w_ ⟨rfl, rfl⟩))
    exact ⟨rfl, .inr ⟨fun j hj => HNO.out j hj.1, rfl⟩, out_below (HB1.out.trans ((balloc (brefl w1) _).mono (by omega))) (by omega)⟩
  have q0 : w1.cell? ⟨gw, 0, none⟩ = some (.int .i64 (g : Nat)) := (hb1.cell (p := ⟨gw, 0, none⟩) hlw).trans (cell_of_heap HGW.out 0)
  have q2 : w1.cell? ⟨gw, 2, none⟩ = some (.int .i64 (m : Nat)) := (hb1.cell (p := ⟨gw, 2, none⟩) hlw).trans (cell_of_heap HGW.out 2)
  have hz1 := hb1.size
  have hgl : gw < w1.heap.size := by omega
  have hgne : ¬ gw = w1.heap.size := by omega
  have hA4 := num4_lt bs (12 + 16 * i + 12)
  obtain ⟨v1, v1l, v1c⟩ := view_has HH.out (by rw [HL.out]; exact hn) (show tabOk bs tHmtx.toList 0 i from ⟨hi, Nat.zero_le _⟩)
  have HV1 := Lib.hid v1
  have HL1 := Lib.hid v1l
  have HI := Lib.hid hi
  have HB1 := Lib.hid hb1
  clear hi v1 v1l hb1
  generalize hT : tabB bs i = T at *
  have HT := Lib.hid hT
  clear hT
  have HNE := Lib.hid (adv_ne (c := c) (k := atAt bs i) hne)
  clear hne
  generalize adv a c (atAt bs i) = A1 at *
  have hC1m : c - atAt bs i ≤ maxLen := Nat.le_trans (Nat.sub_le _ _) hc
  generalize c - atAt bs i = C1 at *
  generalize hL1 : lenAt bs i = L1 at *
  have HLA := Lib.hid hL1
  clear hL1
  go_wp2_with (first | (go_at_call 41; refine (need_t _ (by rfl) _).mono ?_; rintro e w_ ⟨rfl, rfl⟩))
  obtain ⟨V, hV⟩ : ∃ V, V = w1.alloc (Obj.cells #[.slice A1 L1 C1] 75) := ⟨_, rfl⟩
  have hbV : Below w1.heap.size w1 V := by rw [hV]; exact balloc (brefl w1) _
  have y0 := (hbV.cell (p := ⟨gw, 0, none⟩) hgl).trans q0
  have y2 := (hbV.cell (p := ⟨gw, 2, none⟩) hgl).trans q2
  have y4 : V.cell? ⟨w1.heap.size, 0, none⟩ = some (.slice A1 L1 C1) := by rw [hV]; simp [hAC]
  have h4 : V.heap[w1.heap.size]? = some (.cells #[.slice A1 L1 C1] 75 (0, 0)) := by rw [hV, heap_push, if_pos rfl]
  have hzV : V.heap.size = w1.heap.size + 1 := by rw [hV]; simp
  have hgV : gw < V.heap.size := by omega
  have hg4 : w1.heap.size < V.heap.size := by omega
  have HBV := Lib.hid (HB1.out.trans (hbV.mono hz1))
  have H4 := Lib.hid h4
  rw [← hV]
  clear hV hbV q0 q2 h4
  generalize w1.heap.size = g4 at *
  refine wp_region_tree (.step 0 (.step 1 (.step 2 (.step 3 (.step 4 (.step 5 (.step 6 (.step 7 (.step 8 (.step 9 (.step 10 (.step 11 (.step 12 (.step 13 (.step 14 (.step 15 (.step 16 (.step 17 .nil)))))))))))))))))) (by kernel_rfl) (by kernel_rfl) (by kernel_rfl) (by kernel_rfl) (by intro _ _ d_ _ _ h_; cases d_ <;> first | exact h_ | (dsimp +zetaDelta only at h_ ⊢; exact h_)) (fun w' => ∃ p : Wld V [], w' = p.val) (wld_start _ _) ?_
  have hG_ := @wldC V
  (refine tree_quiet (by simp only [List.getElem?_toArray, List.getElem?_cons_succ, List.getElem?_cons_zero]; rfl) (by rfl) (by rfl) (fun K_ hK_ => ?_); go_big_quiet_op; refine hK_ _ ?_; clear hK_ K_)
  (refine tree_quiet (by simp only [List.getElem?_toArray, List.getElem?_cons_succ, List.getElem?_cons_zero]; rfl) (by rfl) (by rfl) (fun K_ hK_ => ?_); go_big_quiet_op; refine hK_ _ ?_; clear hK_ K_)
  (refine tree_quiet (by simp only [List.getElem?_toArray, List.getElem?_cons_succ, List.getElem?_cons_zero]; rfl) (by rfl) (by rfl) (fun K_ hK_ => ?_); go_big_quiet_op; refine hK_ _ ?_; clear hK_ K_)
  (refine tree_quiet (by simp only [List.getElem?_toArray, List.getElem?_cons_succ, List.getElem?_cons_zero]; rfl) (by rfl) (by rfl) (fun K_ hK_ => ?_); go_big_quiet_op; refine hK_ _ ?_; clear hK_ K_)
  (refine tree_quiet (by simp only [List.getElem?_toArray, List.getElem?_cons_succ, List.getElem?_cons_zero]; rfl) (by rfl) (by rfl) (fun K_ hK_ => ?_); go_big_quiet_op; refine hK_ _ ?_; clear hK_ K_)
  (refine tree_quiet (by simp only [List.getElem?_toArray, List.getElem?_cons_succ, List.getElem?_cons_zero]; rfl) (by rfl) (by rfl) (fun K_ hK_ => ?_); go_big_quiet_op; refine hK_ _ ?_; clear hK_ K_)
  (refine tree_quiet (by simp only [List.getElem?_toArray, List.getElem?_cons_succ, List.getElem?_cons_zero]; rfl) (by rfl) (by rfl) (fun K_ hK_ => ?_); go_big_quiet_op; refine hK_ _ ?_; clear hK_ K_)
  (refine tree_quiet (by simp only [List.getElem?_toArray, List.getElem?_cons_succ, List.getElem?_cons_zero]; rfl) (by rfl) (by rfl) (fun K_ hK_ => ?_); go_big_quiet_op; refine hK_ _ ?_; clear hK_ K_)
  (refine tree_quiet (by simp only [List.getElem?_toArray, List.getElem?_cons_succ, List.getElem?_cons_zero]; rfl) (by rfl) (by rfl) (fun K_ hK_ => ?_); go_big_quiet_op; refine hK_ _ ?_; clear hK_ K_)
  (refine tree_quiet (by simp only [List.getElem?_toArray, List.getElem?_cons_succ, List.getElem?_cons_zero]; rfl) (by rfl) (by rfl) (fun K_ hK_ => ?_); go_big_quiet_op; refine hK_ _ ?_; clear hK_ K_)
  (refine tree_quiet (by simp only [List.getElem?_toArray, List.getElem?_cons_succ, List.getElem?_cons_zero]; rfl) (by rfl) (by rfl) (fun K_ hK_ => ?_); go_big_quiet_op; refine hK_ _ ?_; clear hK_ K_)
  (refine tree_quiet (by simp only [List.getElem?_toArray, List.getElem?_cons_succ, List.getElem?_cons_zero]; rfl) (by rfl) (by rfl) (fun K_ hK_ => ?_); go_big_quiet_op; refine hK_ _ ?_; clear hK_ K_)
  (refine tree_quiet (by simp only [List.getElem?_toArray, List.getElem?_cons_succ, List.getElem?_cons_zero]; rfl) (by rfl) (by rfl) (fun K_ hK_ => ?_); go_big_quiet_op; refine hK_ _ ?_; clear hK_ K_)
  (refine tree_quiet (by simp only [List.getElem?_toArray, List.getElem?_cons_succ, List.getElem?_cons_zero]; rfl) (by rfl) (by rfl) (fun K_ hK_ => ?_); go_big_quiet_op; refine hK_ _ ?_; clear hK_ K_)
  (refine tree_quiet (by simp only [List.getElem?_toArray, List.getElem?_cons_succ, List.getElem?_cons_zero]; rfl) (by rfl) (by rfl) (fun K_ hK_ => ?_); go_big_quiet_op; refine hK_ _ ?_; clear hK_ K_)
  (refine tree_quiet (by simp only [List.getElem?_toArray, List.getElem?_cons_succ, List.getElem?_cons_zero]; rfl) (by rfl) (by rfl) (fun K_ hK_ => ?_); go_big_quiet_op; refine hK_ _ ?_; clear hK_ K_)
  (refine tree_quiet (by simp only [List.getElem?_toArray, List.getElem?_cons_succ, List.getElem?_cons_zero]; rfl) (by rfl) (by rfl) (fun K_ hK_ => ?_); go_big_quiet_op; refine hK_ _ ?_; clear hK_ K_)
  (refine tree_quiet (by simp only [List.getElem?_toArray, List.getElem?_cons_succ, List.getElem?_cons_zero]; rfl) (by rfl) (by rfl) (fun K_ hK_ => ?_); go_big_quiet_op; refine hK_ _ ?_; clear hK_ K_)
  refine tree_nil ?_
  clear hG_
  by_cases hfit : 4 * m + 2 * (g - m) ≤ L1
  case neg =>
    have HNI := Lib.hid (show ∀ j, ¬ hmtxOk bs g m j from fun j hj => by
      obtain rfl := found_one HI.out hj.1
      have := hj.2
      rw [HLA.out] at this
      exact hfit this)
    by_cases hf1 : m ≤ L1 / 4
    · have hsub : ((g : Nat) : Int) - ((m : Nat) : Int) = ((g - m : Nat) : Int) := by omega
      have hmL : m ≤ L1 / 4 := hf1
      have HR1 := Lib.hid (fun W => rows_z A1 L1 C1 0 m 4 (m * 4) 0 ((m : Nat) : Int) 4 rfl rfl rfl W rfl (Nat.zero_le _) (.inr (by omega)) (by omega) (by omega) v1c hC1m)
      have HR2 := Lib.hid (fun W => rows_zb A1 L1 C1 (m * 4) (g - m) 2 (((m : Nat) : Int) * 4) ((g - m : Nat) : Int) 2 (by omega) rfl rfl W (by omega) (by omega) (by omega) (by rintro ⟨_, hx⟩; omega) v1c hC1m)
      rw [adv_zero, Nat.sub_zero] at HR1
      rw [hsub]
      clear hmL
      go_wp2_with (first | (go_at_call 44; (with_reducible refine (HR1.out _).mono ?_); rintro e w3 ⟨rfl, hb3⟩; have h3c := bc hb3; have h3f := bf hb3; have h3z := hb3.size; try simp only [World.size_alloc, World.size_drew] at h3z))
      have b3 : Below V.heap.size V w3 := (brefl V).drew.trans hb3
      have hz3 := b3.size
      have k4 := (b3.cell (p := ⟨g4, 0, none⟩) hg4).trans y4
      obtain ⟨U, hU⟩ : ∃ U, U = w3.alloc (Obj.cells #[.slice A1 (m * 4) C1] 75) := ⟨_, rfl⟩
      have bU : Below V.heap.size V U := by rw [hU]; exact balloc b3 _
      have u4 : U.cell? ⟨g4, 0, none⟩ = some (.slice A1 L1 C1) := (bU.cell (p := ⟨g4, 0, none⟩) hg4).trans y4
      have u8 : U.cell? ⟨w3.heap.size, 0, none⟩ = some (.slice A1 (m * 4) C1) := by rw [hU]; simp [hAC]
      have h8 : U.heap[w3.heap.size]? = some (.cells #[.slice A1 (m * 4) C1] 75 (0, 0)) := by rw [hU]; exact heap_new _ _ _
      have hzU : U.heap.size = w3.heap.size + 1 := by rw [hU]; simp
      have hl4 : g4 < U.heap.size := by omega
      have hl8 : w3.heap.size < U.heap.size := by omega
      have HBU := Lib.hid (HBV.out.trans (bU.mono (by omega)))
      have H8 := Lib.hid h8
      have HZU := Lib.hid hzU
      rw [← hU]
      clear hzU hU bU b3 k4 h8 h3c h3f hb3 y0 y2 y4
      generalize w3.heap.size = g8 at *
      refine wp_region_tree (.step 0 (.step 1 (.step 3 (.two 2 (.two 4 (.step 5 (.step 6 .nil)) 5 (.step 4 (.step 6 .nil))) 5 (.step 2 (.step 4 (.step 6 .nil))))))) (by kernel_rfl) (by kernel_rfl) (by kernel_rfl) (by kernel_rfl) (by intro _ _ d_ _ _ h_; cases d_ <;> first | exact h_ | (dsimp +zetaDelta only at h_ ⊢; exact h_)) (fun w' => ∃ p : BelW U.heap.size U, w' = p.val) (bel_start _ _) ?_
      have hG_ := @belC U.heap.size U
      (refine tree_quiet (by simp only [List.getElem?_toArray, List.getElem?_cons_succ, List.getElem?_cons_zero]; rfl) (by rfl) (by rfl) (fun K_ hK_ => ?_); go_big_quiet_op; refine hK_ _ ?_; clear hK_ K_)
      (refine tree_quiet (by simp only [List.getElem?_toArray, List.getElem?_cons_succ, List.getElem?_cons_zero]; rfl) (by rfl) (by rfl) (fun K_ hK_ => ?_); go_big_quiet_op; refine hK_ _ ?_; clear hK_ K_)
      (refine tree_quiet (by simp only [List.getElem?_toArray, List.getElem?_cons_succ, List.getElem?_cons_zero]; rfl) (by rfl) (by rfl) (fun K_ hK_ => ?_); go_big_quiet_op; refine hK_ _ ?_; clear hK_ K_)
      refine tree_two (by simp only [List.getElem?_toArray, List.getElem?_cons_succ, List.getElem?_cons_zero]; rfl) (by simp only [List.getElem?_toArray, List.getElem?_cons_succ, List.getElem?_cons_zero]; rfl) (by rfl) (by rfl) (fun K_ hK_ => ?_) (fun K_ hK_ => ?_)
      · have HK_ := Lib.hid hK_; clear hK_; go_wp2_with (first | (go_at_call 45; refine (len_any _ _ _ _).mono ?_; rintro e wa ⟨rfl, hba⟩; have hac := bc hba; have haf := bf hba; have haz := hba.size; try simp only [World.size_alloc, World.size_drew] at haz) | (go_at_call 44; (with_reducible refine (HR2.out _).mono ?_); rintro e wb ⟨rfl, hbb⟩; have hbc := bc hbb; have hbf := bf hbb; have hbz := hbb.size; try simp only [World.size_alloc, World.size_drew] at hbz)); refine HK_.out _ _ (bel_of (by repeat (first | exact Below.refl _ _ | assumption | refine bdrew1q ?_ | refine balloc ?_ _ | refine bthen ?_ (by assumption) | refine Below.trans ?_ (by assumption)))) ?_; clear HK_
        refine tree_two (by simp only [List.getElem?_toArray, List.getElem?_cons_succ, List.getElem?_cons_zero]; rfl) (by simp only [List.getElem?_toArray, List.getElem?_cons_succ, List.getElem?_cons_zero]; rfl) (by rfl) (by rfl) (fun K_ hK_ => ?_) (fun K_ hK_ => ?_)
        · have HK_ := Lib.hid hK_; clear hK_; go_wp2_with (first | (go_at_call 45; refine (len_any _ _ _ _).mono ?_; rintro e wa ⟨rfl, hba⟩; have hac := bc hba; have haf := bf hba; have haz := hba.size; try simp only [World.size_alloc, World.size_drew] at haz) | (go_at_call 44; (with_reducible refine (HR2.out _).mono ?_); rintro e wb ⟨rfl, hbb⟩; have hbc := bc hbb; have hbf := bf hbb; have hbz := hbb.size; try simp only [World.size_alloc, World.size_drew] at hbz)); exact ⟨rfl, .inr ⟨HNI.out, rfl⟩, out_below (HBU.out.trans (Below.mono (show Below U.heap.size U _ by repeat (first | exact Below.refl _ _ | assumption | refine bdrew1q ?_ | refine balloc ?_ _ | refine bthen ?_ (by assumption) | refine Below.trans ?_ (by assumption))) HBU.out.size)) (by omega)⟩
        · have HK_ := Lib.hid hK_; clear hK_; go_wp2_with (first | (go_at_call 45; refine (len_any _ _ _ _).mono ?_; rintro e wa ⟨rfl, hba⟩; have hac := bc hba; have haf := bf hba; have haz := hba.size; try simp only [World.size_alloc, World.size_drew] at haz) | (go_at_call 44; (with_reducible refine (HR2.out _).mono ?_); rintro e wb ⟨rfl, hbb⟩; have hbc := bc hbb; have hbf := bf hbb; have hbz := hbb.size; try simp only [World.size_alloc, World.size_drew] at hbz)); refine HK_.out _ _ (bel_of (by repeat (first | exact Below.refl _ _ | assumption | refine bdrew1q ?_ | refine balloc ?_ _ | refine bthen ?_ (by assumption) | refine Below.trans ?_ (by assumption)))) ?_; clear HK_
          (refine tree_run (by simp only [List.getElem?_toArray, List.getElem?_cons_succ, List.getElem?_cons_zero]; rfl) (by rfl) (by rfl) (fun K_ hK_ => ?_); have HK_ := Lib.hid hK_; clear hK_; go_wp2_with (first | (go_at_call 45; refine (len_any _ _ _ _).mono ?_; rintro e wa ⟨rfl, hba⟩; have hac := bc hba; have haf := bf hba; have haz := hba.size; try simp only [World.size_alloc, World.size_drew] at haz) | (go_at_call 44; (with_reducible refine (HR2.out _).mono ?_); rintro e wb ⟨rfl, hbb⟩; have hbc := bc hbb; have hbf := bf hbb; have hbz := hbb.size; try simp only [World.size_alloc, World.size_drew] at hbz)); exact ⟨rfl, .inr ⟨HNI.out, rfl⟩, out_below (HBU.out.trans (Below.mono (show Below U.heap.size U _ by repeat (first | exact Below.refl _ _ | assumption | refine bdrew1q ?_ | refine balloc ?_ _ | refine bthen ?_ (by assumption) | refine Below.trans ?_ (by assumption))) HBU.out.size)) (by omega)⟩)
      · have HK_ := Lib.hid hK_; clear hK_; go_wp2_with (first | (go_at_call 45; refine (len_any _ _ _ _).mono ?_; rintro e wa ⟨rfl, hba⟩; have hac := bc hba; have haf := bf hba; have haz := hba.size; try simp only [World.size_alloc, World.size_drew] at haz) | (go_at_call 44; (with_reducible refine (HR2.out _).mono ?_); rintro e wb ⟨rfl, hbb⟩; have hbc := bc hbb; have hbf := bf hbb; have hbz := hbb.size; try simp only [World.size_alloc, World.size_drew] at hbz)); refine HK_.out _ _ (bel_of (by repeat (first | exact Below.refl _ _ | assumption | refine bdrew1q ?_ | refine balloc ?_ _ | refine bthen ?_ (by assumption) | refine Below.trans ?_ (by assumption)))) ?_; clear HK_
        (refine tree_run (by simp only [List.getElem?_toArray, List.getElem?_cons_succ, List.getElem?_cons_zero]; rfl) (by rfl) (by rfl) (fun K_ hK_ => ?_); have HK_ := Lib.hid hK_; clear hK_; go_wp2_with (first | (go_at_call 45; refine (len_any _ _ _ _).mono ?_; rintro e wa ⟨rfl, hba⟩; have hac := bc hba; have haf := bf hba; have haz := hba.size; try simp only [World.size_alloc, World.size_drew] at haz) | (go_at_call 44; (with_reducible refine (HR2.out _).mono ?_); rintro e wb ⟨rfl, hbb⟩; have hbc := bc hbb; have hbf := bf hbb; have hbz := hbb.size; try simp only [World.size_alloc, World.size_drew] at hbz)); refine HK_.out _ _ (bel_of (by repeat (first | exact Below.refl _ _ | assumption | refine bdrew1q ?_ | refine balloc ?_ _ | refine bthen ?_ (by assumption) | refine Below.trans ?_ (by assumption)))) ?_; clear HK_)
        (refine tree_run (by simp only [List.getElem?_toArray, List.getElem?_cons_succ, List.getElem?_cons_zero]; rfl) (by rfl) (by rfl) (fun K_ hK_ => ?_); have HK_ := Lib.hid hK_; clear hK_; go_wp2_with (first | (go_at_call 45; refine (len_any _ _ _ _).mono ?_; rintro e wa ⟨rfl, hba⟩; have hac := bc hba; have haf := bf hba; have haz := hba.size; try simp only [World.size_alloc, World.size_drew] at haz) | (go_at_call 44; (with_reducible refine (HR2.out _).mono ?_); rintro e wb ⟨rfl, hbb⟩; have hbc := bc hbb; have hbf := bf hbb; have hbz := hbb.size; try simp only [World.size_alloc, World.size_drew] at hbz)); exact ⟨rfl, .inr ⟨HNI.out, rfl⟩, out_below (HBU.out.trans (Below.mono (show Below U.heap.size U _ by repeat (first | exact Below.refl _ _ | assumption | refine bdrew1q ?_ | refine balloc ?_ _ | refine bthen ?_ (by assumption) | refine Below.trans ?_ (by assumption))) HBU.out.size)) (by omega)⟩)
    · have HRB := Lib.hid (fun W => rows_zb A1 L1 C1 0 m 4 0 ((m : Nat) : Int) 4 rfl rfl rfl W (by omega) (by omega) (by omega) (by rintro ⟨_, hx⟩; exact hf1 (by simpa using hx)) v1c hC1m)
      go_wp2_with (first | (go_at_call 44; (with_reducible refine (HRB.out _).mono ?_); rintro e w3 ⟨rfl, hb3⟩; have h3c := bc hb3; have h3f := bf hb3; have h3z := hb3.size; try simp only [World.size_alloc, World.size_drew] at h3z))
      exact ⟨rfl, .inr ⟨HNI.out, rfl⟩, out_below (HBV.out.trans (((brefl V).drew.trans hb3).mono HBV.out.size)) (by omega)⟩
  have hsub : ((g : Nat) : Int) - ((m : Nat) : Int) = ((g - m : Nat) : Int) := by omega
  have hmL : m ≤ L1 / 4 := by omega
  have hoL : g - m ≤ (L1 - m * 4) / 2 := by omega
  have HR1 := Lib.hid (fun W => rows_z A1 L1 C1 0 m 4 (m * 4) 0 ((m : Nat) : Int) 4 rfl rfl rfl W rfl (Nat.zero_le _) (.inr (by omega)) (by omega) (by omega) v1c hC1m)
  have HR2 := Lib.hid (fun W => rows_z A1 L1 C1 (m * 4) (g - m) 2 ((g - m) * 2) (((m : Nat) : Int) * 4) ((g - m : Nat) : Int) 2 (by omega) rfl rfl W rfl (by omega) (.inr hoL) (by omega) (by omega) v1c hC1m)
  rw [adv_zero, Nat.sub_zero] at HR1
  rw [hsub]
  clear hmL hoL
  go_wp2_with (first | (go_at_call 44; (with_reducible refine (HR1.out _).mono ?_); rintro e w3 ⟨rfl, hb3⟩; have h3c := bc hb3; have h3f := bf hb3; have h3z := hb3.size; try simp only [World.size_alloc, World.size_drew] at h3z))
  have b3 : Below V.heap.size V w3 := (brefl V).drew.trans hb3
  have hz3 := b3.size
  have k4 := (b3.cell (p := ⟨g4, 0, none⟩) hg4).trans y4
  obtain ⟨U, hU⟩ : ∃ U, U = w3.alloc (Obj.cells #[.slice A1 (m * 4) C1] 75) := ⟨_, rfl⟩
  have bU : Below V.heap.size V U := by rw [hU]; exact balloc b3 _
  have u4 : U.cell? ⟨g4, 0, none⟩ = some (.slice A1 L1 C1) := (bU.cell (p := ⟨g4, 0, none⟩) hg4).trans y4
  have u8 : U.cell? ⟨w3.heap.size, 0, none⟩ = some (.slice A1 (m * 4) C1) := by rw [hU]; simp [hAC]
  have h8 : U.heap[w3.heap.size]? = some (.cells #[.slice A1 (m * 4) C1] 75 (0, 0)) := by rw [hU]; exact heap_new _ _ _
  have hzU : U.heap.size = w3.heap.size + 1 := by rw [hU]; simp
  have hl4 : g4 < U.heap.size := by omega
  have hl8 : w3.heap.size < U.heap.size := by omega
  have HBU := Lib.hid (HBV.out.trans (bU.mono (by omega)))
  have H8 := Lib.hid h8
  have HZU := Lib.hid hzU
  rw [← hU]
  clear hzU hU bU b3 k4 h8 h3c h3f hb3 y0 y2 y4
  generalize w3.heap.size = g8 at *
  apply cutP (R := ∀ (g_ : Nat) (x_ : Nat → Value) (W_ : World), (fun g9 W9 => Below U.heap.size U W9 ∧ U.heap.size ≤ g9 ∧ g9 < W9.heap.size ∧ W9.heap[g9]? = some (.cells #[.slice (adv A1 C1 (m * 4)) ((g - m) * 2) (C1 - m * 4)] 75 (0, 0))) g_ W_ → _)
  · intro hfin_
    refine wp_region_tree (.step 0 (.step 1 (.step 3 (.two 2 (.two 4 (.step 5 (.step 6 .nil)) 5 (.step 4 (.step 6 .nil))) 5 (.step 2 (.step 4 (.step 6 .nil))))))) (by kernel_rfl) (by kernel_rfl) (by kernel_rfl) (by kernel_rfl) (by intro _ _ d_ _ _ h_; cases d_ <;> first | exact h_ | (dsimp +zetaDelta only at h_ ⊢; exact h_)) (fun w' => ∃ p : Wld U [], w' = p.val) (wld_start _ _) ?_
    have hG_ := @wldC U
    (refine tree_quiet (by simp only [List.getElem?_toArray, List.getElem?_cons_succ, List.getElem?_cons_zero]; rfl) (by rfl) (by rfl) (fun K_ hK_ => ?_); go_big_quiet_op; refine hK_ _ ?_; clear hK_ K_)
    (refine tree_quiet (by simp only [List.getElem?_toArray, List.getElem?_cons_succ, List.getElem?_cons_zero]; rfl) (by rfl) (by rfl) (fun K_ hK_ => ?_); go_big_quiet_op; refine hK_ _ ?_; clear hK_ K_)
    (refine tree_quiet (by simp only [List.getElem?_toArray, List.getElem?_cons_succ, List.getElem?_cons_zero]; rfl) (by rfl) (by rfl) (fun K_ hK_ => ?_); go_big_quiet_op; refine hK_ _ ?_; clear hK_ K_)
    refine tree_two (by simp only [List.getElem?_toArray, List.getElem?_cons_succ, List.getElem?_cons_zero]; rfl) (by simp only [List.getElem?_toArray, List.getElem?_cons_succ, List.getElem?_cons_zero]; rfl) (by rfl) (by rfl) (fun K_ hK_ => ?_) (fun K_ hK_ => ?_)
    · have HK_ := Lib.hid hK_; clear hK_; go_wp2_with (first
    | (go_at_call 45; refine (len_any _ _ _ _).mono ?_; rintro e wa ⟨rfl, hba⟩; have hac := bc hba; have haf := bf hba; have haz := hba.size; try simp only [World.size_alloc, World.size_drew] at haz)
    | (go_at_call 44; (with_reducible refine (HR2.out _).mono ?_); rintro e wb ⟨rfl, hbb⟩; have hbc := bc hbb; have hbf := bf hbb; have hbz := hbb.size; try simp only [World.size_alloc, World.size_drew] at hbz)); refine HK_.out _ _ (wld_of (by repeat (first | exact same_below (brefl _) | exact same_realloc (by simp) | exact same_below (bdrew1 (brefl _)) | assumption | refine same_drew ?_ | refine same_then ?_ (by assumption) | refine same_alloc ?_ _ | (refine same_set ?_ (by first | (left; simp; done) | (right; simp; done) | (right; simp; omega)) _)))) ?_; clear HK_
      refine tree_two (by simp only [List.getElem?_toArray, List.getElem?_cons_succ, List.getElem?_cons_zero]; rfl) (by simp only [List.getElem?_toArray, List.getElem?_cons_succ, List.getElem?_cons_zero]; rfl) (by rfl) (by rfl) (fun K_ hK_ => ?_) (fun K_ hK_ => ?_)
      · have HK_ := Lib.hid hK_; clear hK_; go_wp2_with (first
    | (go_at_call 45; refine (len_any _ _ _ _).mono ?_; rintro e wa ⟨rfl, hba⟩; have hac := bc hba; have haf := bf hba; have haz := hba.size; try simp only [World.size_alloc, World.size_drew] at haz)
    | (go_at_call 44; (with_reducible refine (HR2.out _).mono ?_); rintro e wb ⟨rfl, hbb⟩; have hbc := bc hbb; have hbf := bf hbb; have hbz := hbb.size; try simp only [World.size_alloc, World.size_drew] at hbz)); refine HK_.out _ _ (wld_of (by repeat (first | exact same_below (brefl _) | exact same_realloc (by simp) | exact same_below (bdrew1 (brefl _)) | assumption | refine same_drew ?_ | refine same_then ?_ (by assumption) | refine same_alloc ?_ _ | (refine same_set ?_ (by first | (left; simp; done) | (right; simp; done) | (right; simp; omega)) _)))) ?_; clear HK_
        (refine tree_run (by simp only [List.getElem?_toArray, List.getElem?_cons_succ, List.getElem?_cons_zero]; rfl) (by rfl) (by rfl) (fun K_ hK_ => ?_); have HK_ := Lib.hid hK_; clear hK_; go_wp2_with (first
    | (go_at_call 45; refine (len_any _ _ _ _).mono ?_; rintro e wa ⟨rfl, hba⟩; have hac := bc hba; have haf := bf hba; have haz := hba.size; try simp only [World.size_alloc, World.size_drew] at haz)
    | (go_at_call 44; (with_reducible refine (HR2.out _).mono ?_); rintro e wb ⟨rfl, hbb⟩; have hbc := bc hbb; have hbf := bf hbb; have hbz := hbb.size; try simp only [World.size_alloc, World.size_drew] at hbz)); refine HK_.out _ _ (wld_of (by repeat (first | exact same_below (brefl _) | exact same_realloc (by simp) | exact same_below (bdrew1 (brefl _)) | assumption | refine same_drew ?_ | refine same_then ?_ (by assumption) | refine same_alloc ?_ _ | (refine same_set ?_ (by first | (left; simp; done) | (right; simp; done) | (right; simp; omega)) _)))) ?_; clear HK_)
        (refine tree_run (by simp only [List.getElem?_toArray, List.getElem?_cons_succ, List.getElem?_cons_zero]; rfl) (by rfl) (by rfl) (fun K_ hK_ => ?_); have HK_ := Lib.hid hK_; clear hK_; go_wp2_with (first
    | (go_at_call 45; refine (len_any _ _ _ _).mono ?_; rintro e wa ⟨rfl, hba⟩; have hac := bc hba; have haf := bf hba; have haz := hba.size; try simp only [World.size_alloc, World.size_drew] at haz)
    | (go_at_call 44; (with_reducible refine (HR2.out _).mono ?_); rintro e wb ⟨rfl, hbb⟩; have hbc := bc hbb; have hbf := bf hbb; have hbz := hbb.size; try simp only [World.size_alloc, World.size_drew] at hbz)); refine HK_.out _ _ (wld_of (by repeat (first | exact same_below (brefl _) | exact same_realloc (by simp) | exact same_below (bdrew1 (brefl _)) | assumption | refine same_drew ?_ | refine same_then ?_ (by assumption) | refine same_alloc ?_ _ | (refine same_set ?_ (by first | (left; simp; done) | (right; simp; done) | (right; simp; omega)) _)))) ?_; clear HK_)
        refine tree_nil ?_
        refine leaf_any 9 [] (fun g9 W9 => Below U.heap.size U W9 ∧ U.heap.size ≤ g9 ∧ g9 < W9.heap.size ∧ W9.heap[g9]? = some (.cells #[.slice (adv A1 C1 (m * 4)) ((g - m) * 2) (C1 - m * 4)] 75 (0, 0))) _ (by rfl) (by first | (simp only [blank, List.setIfInBounds_toArray, List.set_cons_succ, List.set_cons_zero]; rfl) | simp only [blank, List.setIfInBounds_toArray, List.set_cons_succ, List.set_cons_zero]) (hfin_ ()) ?_
        (refine ⟨(by repeat (first | exact brefl _ | assumption | refine balloc ?_ _ | refine bdrew ?_ _ | refine bdrew1 ?_ | refine bthen ?_ (by assumption) | refine Below.trans ?_ (by assumption) | (refine bset ?_ (by first | (simp; done) | (simp; omega)) _))), ?_, ?_, ?_⟩ <;> first | omega | (simp only [World.size_setCell, World.size_alloc, World.size_drew]; omega) | exact heap_new _ _ _ | exact heap_set_new (by assumption) | exact heap_set_new (bthen (by assumption) (by assumption)) | exact heap_set_newd (by assumption) | exact heap_set_newd (bthen (by assumption) (by assumption)))
      · have HK_ := Lib.hid hK_; clear hK_; go_wp2_with (first
    | (go_at_call 45; refine (len_any _ _ _ _).mono ?_; rintro e wa ⟨rfl, hba⟩; have hac := bc hba; have haf := bf hba; have haz := hba.size; try simp only [World.size_alloc, World.size_drew] at haz)
    | (go_at_call 44; (with_reducible refine (HR2.out _).mono ?_); rintro e wb ⟨rfl, hbb⟩; have hbc := bc hbb; have hbf := bf hbb; have hbz := hbb.size; try simp only [World.size_alloc, World.size_drew] at hbz)); refine HK_.out _ _ (wld_of (by repeat (first | exact same_below (brefl _) | exact same_realloc (by simp) | exact same_below (bdrew1 (brefl _)) | assumption | refine same_drew ?_ | refine same_then ?_ (by assumption) | refine same_alloc ?_ _ | (refine same_set ?_ (by first | (left; simp; done) | (right; simp; done) | (right; simp; omega)) _)))) ?_; clear HK_
        (refine tree_run (by simp only [List.getElem?_toArray, List.getElem?_cons_succ, List.getElem?_cons_zero]; rfl) (by rfl) (by rfl) (fun K_ hK_ => ?_); have HK_ := Lib.hid hK_; clear hK_; go_wp2_with (first
    | (go_at_call 45; refine (len_any _ _ _ _).mono ?_; rintro e wa ⟨rfl, hba⟩; have hac := bc hba; have haf := bf hba; have haz := hba.size; try simp only [World.size_alloc, World.size_drew] at haz)
    | (go_at_call 44; (with_reducible refine (HR2.out _).mono ?_); rintro e wb ⟨rfl, hbb⟩; have hbc := bc hbb; have hbf := bf hbb; have hbz := hbb.size; try simp only [World.size_alloc, World.size_drew] at hbz)); refine HK_.out _ _ (wld_of (by repeat (first | exact same_below (brefl _) | exact same_realloc (by simp) | exact same_below (bdrew1 (brefl _)) | assumption | refine same_drew ?_ | refine same_then ?_ (by assumption) | refine same_alloc ?_ _ | (refine same_set ?_ (by first | (left; simp; done) | (right; simp; done) | (right; simp; omega)) _)))) ?_; clear HK_)
        (refine tree_run (by simp only [List.getElem?_toArray, List.getElem?_cons_succ, List.getElem?_cons_zero]; rfl) (by rfl) (by rfl) (fun K_ hK_ => ?_); have HK_ := Lib.hid hK_; clear hK_; go_wp2_with (first
    | (go_at_call 45; refine (len_any _ _ _ _).mono ?_; rintro e wa ⟨rfl, hba⟩; have hac := bc hba; have haf := bf hba; have haz := hba.size; try simp only [World.size_alloc, World.size_drew] at haz)
    | (go_at_call 44; (with_reducible refine (HR2.out _).mono ?_); rintro e wb ⟨rfl, hbb⟩; have hbc := bc hbb; have hbf := bf hbb; have hbz := hbb.size; try simp only [World.size_alloc, World.size_drew] at hbz)); refine HK_.out _ _ (wld_of (by repeat (first | exact same_below (brefl _) | exact same_realloc (by simp) | exact same_below (bdrew1 (brefl _)) | assumption | refine same_drew ?_ | refine same_then ?_ (by assumption) | refine same_alloc ?_ _ | (refine same_set ?_ (by first | (left; simp; done) | (right; simp; done) | (right; simp; omega)) _)))) ?_; clear HK_)
        refine tree_nil ?_
        refine leaf_any 9 [] (fun g9 W9 => Below U.heap.size U W9 ∧ U.heap.size ≤ g9 ∧ g9 < W9.heap.size ∧ W9.heap[g9]? = some (.cells #[.slice (adv A1 C1 (m * 4)) ((g - m) * 2) (C1 - m * 4)] 75 (0, 0))) _ (by rfl) (by first | (simp only [blank, List.setIfInBounds_toArray, List.set_cons_succ, List.set_cons_zero]; rfl) | simp only [blank, List.setIfInBounds_toArray, List.set_cons_succ, List.set_cons_zero]) (hfin_ ()) ?_
        (refine ⟨(by repeat (first | exact brefl _ | assumption | refine balloc ?_ _ | refine bdrew ?_ _ | refine bdrew1 ?_ | refine bthen ?_ (by assumption) | refine Below.trans ?_ (by assumption) | (refine bset ?_ (by first | (simp; done) | (simp; omega)) _))), ?_, ?_, ?_⟩ <;> first | omega | (simp only [World.size_setCell, World.size_alloc, World.size_drew]; omega) | exact heap_new _ _ _ | exact heap_set_new (by assumption) | exact heap_set_new (bthen (by assumption) (by assumption)) | exact heap_set_newd (by assumption) | exact heap_set_newd (bthen (by assumption) (by assumption)))
    · have HK_ := Lib.hid hK_; clear hK_; go_wp2_with (first
    | (go_at_call 45; refine (len_any _ _ _ _).mono ?_; rintro e wa ⟨rfl, hba⟩; have hac := bc hba; have haf := bf hba; have haz := hba.size; try simp only [World.size_alloc, World.size_drew] at haz)
    | (go_at_call 44; (with_reducible refine (HR2.out _).mono ?_); rintro e wb ⟨rfl, hbb⟩; have hbc := bc hbb; have hbf := bf hbb; have hbz := hbb.size; try simp only [World.size_alloc, World.size_drew] at hbz)); refine HK_.out _ _ (wld_of (by repeat (first | exact same_below (brefl _) | exact same_realloc (by simp) | exact same_below (bdrew1 (brefl _)) | assumption | refine same_drew ?_ | refine same_then ?_ (by assumption) | refine same_alloc ?_ _ | (refine same_set ?_ (by first | (left; simp; done) | (right; simp; done) | (right; simp; omega)) _)))) ?_; clear HK_
      (refine tree_run (by simp only [List.getElem?_toArray, List.getElem?_cons_succ, List.getElem?_cons_zero]; rfl) (by rfl) (by rfl) (fun K_ hK_ => ?_); have HK_ := Lib.hid hK_; clear hK_; go_wp2_with (first
    | (go_at_call 45; refine (len_any _ _ _ _).mono ?_; rintro e wa ⟨rfl, hba⟩; have hac := bc hba; have haf := bf hba; have haz := hba.size; try simp only [World.size_alloc, World.size_drew] at haz)
    | (go_at_call 44; (with_reducible refine (HR2.out _).mono ?_); rintro e wb ⟨rfl, hbb⟩; have hbc := bc hbb; have hbf := bf hbb; have hbz := hbb.size; try simp only [World.size_alloc, World.size_drew] at hbz)); refine HK_.out _ _ (wld_of (by repeat (first | exact same_below (brefl _) | exact same_realloc (by simp) | exact same_below (bdrew1 (brefl _)) | assumption | refine same_drew ?_ | refine same_then ?_ (by assumption) | refine same_alloc ?_ _ | (refine same_set ?_ (by first | (left; simp; done) | (right; simp; done) | (right; simp; omega)) _)))) ?_; clear HK_)
      (refine tree_run (by simp only [List.getElem?_toArray, List.getElem?_cons_succ, List.getElem?_cons_zero]; rfl) (by rfl) (by rfl) (fun K_ hK_ => ?_); have HK_ := Lib.hid hK_; clear hK_; go_wp2_with (first
    | (go_at_call 45; refine (len_any _ _ _ _).mono ?_; rintro e wa ⟨rfl, hba⟩; have hac := bc hba; have haf := bf hba; have haz := hba.size; try simp only [World.size_alloc, World.size_drew] at haz)
    | (go_at_call 44; (with_reducible refine (HR2.out _).mono ?_); rintro e wb ⟨rfl, hbb⟩; have hbc := bc hbb; have hbf := bf hbb; have hbz := hbb.size; try simp only [World.size_alloc, World.size_drew] at hbz)); refine HK_.out _ _ (wld_of (by repeat (first | exact same_below (brefl _) | exact same_realloc (by simp) | exact same_below (bdrew1 (brefl _)) | assumption | refine same_drew ?_ | refine same_then ?_ (by assumption) | refine same_alloc ?_ _ | (refine same_set ?_ (by first | (left; simp; done) | (right; simp; done) | (right; simp; omega)) _)))) ?_; clear HK_)
      (refine tree_run (by simp only [List.getElem?_toArray, List.getElem?_cons_succ, List.getElem?_cons_zero]; rfl) (by rfl) (by rfl) (fun K_ hK_ => ?_); have HK_ := Lib.hid hK_; clear hK_; go_wp2_with (first
    | (go_at_call 45; refine (len_any _ _ _ _).mono ?_; rintro e wa ⟨rfl, hba⟩; have hac := bc hba; have haf := bf hba; have haz := hba.size; try simp only [World.size_alloc, World.size_drew] at haz)
    | (go_at_call 44; (with_reducible refine (HR2.out _).mono ?_); rintro e wb ⟨rfl, hbb⟩; have hbc := bc hbb; have hbf := bf hbb; have hbz := hbb.size; try simp only [World.size_alloc, World.size_drew] at hbz)); refine HK_.out _ _ (wld_of (by repeat (first | exact same_below (brefl _) | exact same_realloc (by simp) | exact same_below (bdrew1 (brefl _)) | assumption | refine same_drew ?_ | refine same_then ?_ (by assumption) | refine same_alloc ?_ _ | (refine same_set ?_ (by first | (left; simp; done) | (right; simp; done) | (right; simp; omega)) _)))) ?_; clear HK_)
      refine tree_nil ?_
      refine leaf_any 9 [] (fun g9 W9 => Below U.heap.size U W9 ∧ U.heap.size ≤ g9 ∧ g9 < W9.heap.size ∧ W9.heap[g9]? = some (.cells #[.slice (adv A1 C1 (m * 4)) ((g - m) * 2) (C1 - m * 4)] 75 (0, 0))) _ (by rfl) (by first | (simp only [blank, List.setIfInBounds_toArray, List.set_cons_succ, List.set_cons_zero]; rfl) | simp only [blank, List.setIfInBounds_toArray, List.set_cons_succ, List.set_cons_zero]) (hfin_ ()) ?_
      (refine ⟨(by repeat (first | exact brefl _ | assumption | refine balloc ?_ _ | refine bdrew ?_ _ | refine bdrew1 ?_ | refine bthen ?_ (by assumption) | refine Below.trans ?_ (by assumption) | (refine bset ?_ (by first | (simp; done) | (simp; omega)) _))), ?_, ?_, ?_⟩ <;> first | omega | (simp only [World.size_setCell, World.size_alloc, World.size_drew]; omega) | exact heap_new _ _ _ | exact heap_set_new (by assumption) | exact heap_set_new (bthen (by assumption) (by assumption)) | exact heap_set_newd (by assumption) | exact heap_set_newd (bthen (by assumption) (by assumption)))
  intro g9 x9 W9 ⟨b9, hg9, hg9', h9⟩
  simp only [fill, List.setIfInBounds_toArray, List.set_cons_succ, List.set_cons_zero]
  have bU9 := Lib.hid (HBU.out.trans (b9.mono HBU.out.size))
  have k8 := (b9.block g8 hl8).trans H8.out
  have kw := (bU9.out.block gw hlw).trans HGW.out
  have K8 := Lib.hid k8
  have KW := Lib.hid kw
  have H9 := Lib.hid h9
  have hz9 := b9.size
  have HV9 := Lib.hid (HV1.out.below bU9.out)
  have hgw9 : gw < W9.heap.size := Nat.lt_of_lt_of_le hlw bU9.out.size
  have hl8' : g8 < W9.heap.size := by omega
  clear b9 h9 k8 kw u4 u8
  go_wp2_with fail
  go_loopw [44] (WRel1 B W9 gw g8 g e m A1 (m * 4) C1 T) (fun i _ => m - (intOf i).toNat)
  case atStart => exact ⟨0, none, 0, none, 0, Nat.zero_le _, rfl, KW.out, K8.out, World.ownsRow_nil _ _ _ _, World.ownsRow_nil _ _ _ _, fun _ => rfl, fun _ => rfl, Nat.zero_le _, Nat.zero_le _, Nat.le_refl _, Nat.le_refl _, ⟨Nat.le_refl _, fun _ _ _ => rfl⟩, Below.refl _ _⟩
  case round =>
    obtain ⟨k, a1, c1, a2, c2, hk, rfl, hW, h8, ho1, ho2, hn1, hn2, hm1, hm2, hk1, hk2, hsm, hbl⟩ := hrel
    have HBL := Lib.hid hbl
    clear hbl
    have HWB := Lib.hid hW
    have HO1 := Lib.hid ho1
    have HO2 := Lib.hid ho2
    have HSM := Lib.hid hsm
    have HN1 := Lib.hid hn1
    have HN2 := Lib.hid hn2
    have hzr := hsm.size
    have r3 := cell_of_heap hW 3
    have r4 := cell_of_heap hW 4
    have rf := fun o => froz_of_heap hW o
    have r8 := cell_of_heap h8 0
    have hgr : gw < wr.heap.size := by omega
    have hgr8 : g8 < wr.heap.size := by omega
    simp only [widV] at hW
    clear ho1 ho2 hsm hn1 hn2
    by_cases hlt : k < m
    · have hT4 : (T.take (m * 4)).length = m * 4 := by rw [List.length_take, HL1.out]; omega
      have hnT : num (T.take (m * 4)) (4 * k) 2 = num T (4 * k) 2 := num_take T (m * 4) (4 * k) (by omega)
      have hHr := has_same HV9.out HSM.out HNE.out
      have hHt := hHr.take (m * 4)
      rw [bytesV_take] at hHt
      have HU := Lib.hid (u16_z A1 (m * 4) C1 (4 * k) (((k : Nat) : Int) * 4) (by omega) (T.take (m * 4)) wr.drew (hHt.below (bdrew1 (brefl wr))) hT4 (by omega) (by omega) hC1m)
      rw [hnT] at HU
      have hn16 := num2_lt T (4 * k)
      have HAV := Lib.hid (show advV T (k + 1) = advV T k ++ [.int .u16 (num T (4 * k) 2 : Nat)] by simp [advV, List.range_succ])
      clear hT4 hnT hHr hHt
      generalize num T (4 * k) 2 = q at *
      go_wp2_with fail
      refine wp_region_last (.step 0 (.step 1 (.step 2 (.step 3 (.step 4 (.step 5 (.step 6 (.step 7 (.step 8 (.step 9 (.step 10 (.step 11 (.step 12 (.step 13 (.step 14 .nil))))))))))))))) 14 (by kernel_rfl) (by kernel_rfl) (by kernel_rfl) (by kernel_rfl) (by kernel_rfl) (by intro _ _ d_ _ _ h_; cases d_ <;> first | exact h_ | (dsimp +zetaDelta only at h_ ⊢; exact h_)) (fun w' => ∃ p : KepE 35 wr, w' = p.val) (kepE_start _ _) ?_
      have hK0_ := fun (p : KepE 35 wr) (o : Nat) => p.is.cell hW (by decide) o
      have hK1_ := fun (p : KepE 35 wr) (o : Nat) => p.is.cell h8 (by decide) o
      (refine z_quiet (by simp only [List.getElem?_toArray, List.getElem?_cons_succ, List.getElem?_cons_zero]; rfl) (by rfl) (by rfl) (fun K_ hK_ => ?_); go_big_quiet_op; refine hK_ _ ?_; clear hK_ K_)
      (refine z_quiet (by simp only [List.getElem?_toArray, List.getElem?_cons_succ, List.getElem?_cons_zero]; rfl) (by rfl) (by rfl) (fun K_ hK_ => ?_); go_big_quiet_op; refine hK_ _ ?_; clear hK_ K_)
      (refine z_quiet (by simp only [List.getElem?_toArray, List.getElem?_cons_succ, List.getElem?_cons_zero]; rfl) (by rfl) (by rfl) (fun K_ hK_ => ?_); go_big_quiet_op; refine hK_ _ ?_; clear hK_ K_)
      (refine z_quiet (by simp only [List.getElem?_toArray, List.getElem?_cons_succ, List.getElem?_cons_zero]; rfl) (by rfl) (by rfl) (fun K_ hK_ => ?_); go_big_quiet_op; refine hK_ _ ?_; clear hK_ K_)
      (refine z_quiet (by simp only [List.getElem?_toArray, List.getElem?_cons_succ, List.getElem?_cons_zero]; rfl) (by rfl) (by rfl) (fun K_ hK_ => ?_); go_big_quiet_op; refine hK_ _ ?_; clear hK_ K_)
      (refine z_quiet (by simp only [List.getElem?_toArray, List.getElem?_cons_succ, List.getElem?_cons_zero]; rfl) (by rfl) (by rfl) (fun K_ hK_ => ?_); go_big_quiet_op; refine hK_ _ ?_; clear hK_ K_)
      (refine z_quiet (by simp only [List.getElem?_toArray, List.getElem?_cons_succ, List.getElem?_cons_zero]; rfl) (by rfl) (by rfl) (fun K_ hK_ => ?_); go_big_quiet_op; refine hK_ _ ?_; clear hK_ K_)
      (refine z_quiet (by simp only [List.getElem?_toArray, List.getElem?_cons_succ, List.getElem?_cons_zero]; rfl) (by rfl) (by rfl) (fun K_ hK_ => ?_); go_big_quiet_op; refine hK_ _ ?_; clear hK_ K_)
      (refine z_run (by simp only [List.getElem?_toArray, List.getElem?_cons_succ, List.getElem?_cons_zero]; rfl) (by rfl) (by rfl) (fun K_ hK_ => ?_); have HK_ := Lib.hid hK_; clear hK_; (first | ((refine wpAppO _ _ 39 rfl W9.heap.size 35 (.int .u16 0) 1 2 Try.underlying39 u16_info rfl (by decide) _ k (advV T k) rfl (owns_below HO1.out (bthen (bdrew1 (brefl wr)) (balloc hbu _)) (Nat.le_refl _)) ⟨wu.heap.size, 0, none⟩ 1 1 [.int .u16 (q : Nat)] rfl rfl (has_alloc _ _ _) (fun u hu => by simp at hu; subst hu; rfl) (by unfold maxLen; omega) (by omega) (by simp; omega) ?_; intro a3 c3 w3' hown3 t31 t32 t33 hb3 hg3; have hk3 := KeptE.grown (owns_below HO1.out (bthen (bdrew1 (brefl wr)) (balloc hbu _)) (Nat.le_refl _)) hg3; have hkw : KeptE 35 wr w3' := ((KeptE.below (bdrew1 (brefl wr))).trans (KeptE.below hbu)).trans ((KeptE.below (balloc (brefl wu) _)).trans hk3); have hw3 := (hkw.2 gw _ _ _ hW (by decide)).trans hW; have h83 := (hkw.2 g8 _ _ _ h8 (by decide)).trans h8; have s3 := cell_of_heap hw3 3; have sf := fun o => froz_of_heap hw3 o; have HO3 := Lib.hid hown3; have HN3 := Lib.hid t33; have HB3 := Lib.hid hb3; have hz3' := hg3.size; clear hown3 t33 hb3 hg3; dsimp only [Act.put]; simp only [List.setIfInBounds_toArray, List.set_cons_succ, List.set_cons_zero])) | (go_wp2_with ((go_at_call 42; (with_reducible refine HU.out.mono ?_); rintro r wu ⟨rfl, hbu⟩; have huz := hbu.size; simp only [World.size_drew] at huz)))); refine HK_.out _ _ (kepE_of (by repeat (first | exact KeptE.refl _ _ | assumption | refine KeptE.trans ?_ (KeptE.below (bdrew1 (brefl _))) | refine KeptE.trans ?_ (KeptE.below (balloc (brefl _) _)) | refine KeptE.trans ?_ (KeptE.below (by assumption)) | refine KeptE.trans ?_ (by assumption)))) ?_; clear HK_)
      (refine z_quiet (by simp only [List.getElem?_toArray, List.getElem?_cons_succ, List.getElem?_cons_zero]; rfl) (by rfl) (by rfl) (fun K_ hK_ => ?_); go_big_quiet_op; refine hK_ _ ?_; clear hK_ K_)
      (refine z_run (by simp only [List.getElem?_toArray, List.getElem?_cons_succ, List.getElem?_cons_zero]; rfl) (by rfl) (by rfl) (fun K_ hK_ => ?_); have HK_ := Lib.hid hK_; clear hK_; (first | ((refine wpAppO _ _ 39 rfl W9.heap.size 35 (.int .u16 0) 1 2 Try.underlying39 u16_info rfl (by decide) _ k (advV T k) rfl (owns_below HO1.out (bthen (bdrew1 (brefl wr)) (balloc hbu _)) (Nat.le_refl _)) ⟨wu.heap.size, 0, none⟩ 1 1 [.int .u16 (q : Nat)] rfl rfl (has_alloc _ _ _) (fun u hu => by simp at hu; subst hu; rfl) (by unfold maxLen; omega) (by omega) (by simp; omega) ?_; intro a3 c3 w3' hown3 t31 t32 t33 hb3 hg3; have hk3 := KeptE.grown (owns_below HO1.out (bthen (bdrew1 (brefl wr)) (balloc hbu _)) (Nat.le_refl _)) hg3; have hkw : KeptE 35 wr w3' := ((KeptE.below (bdrew1 (brefl wr))).trans (KeptE.below hbu)).trans ((KeptE.below (balloc (brefl wu) _)).trans hk3); have hw3 := (hkw.2 gw _ _ _ hW (by decide)).trans hW; have h83 := (hkw.2 g8 _ _ _ h8 (by decide)).trans h8; have s3 := cell_of_heap hw3 3; have sf := fun o => froz_of_heap hw3 o; have HO3 := Lib.hid hown3; have HN3 := Lib.hid t33; have HB3 := Lib.hid hb3; have hz3' := hg3.size; clear hown3 t33 hb3 hg3; dsimp only [Act.put]; simp only [List.setIfInBounds_toArray, List.set_cons_succ, List.set_cons_zero])) | (go_wp2_with ((go_at_call 42; (with_reducible refine HU.out.mono ?_); rintro r wu ⟨rfl, hbu⟩; have huz := hbu.size; simp only [World.size_drew] at huz)))); refine HK_.out _ _ (kepE_of (by repeat (first | exact KeptE.refl _ _ | assumption | refine KeptE.trans ?_ (KeptE.below (bdrew1 (brefl _))) | refine KeptE.trans ?_ (KeptE.below (balloc (brefl _) _)) | refine KeptE.trans ?_ (KeptE.below (by assumption)) | refine KeptE.trans ?_ (by assumption)))) ?_; clear HK_)
      (refine z_run (by simp only [List.getElem?_toArray, List.getElem?_cons_succ, List.getElem?_cons_zero]; rfl) (by rfl) (by rfl) (fun K_ hK_ => ?_); have HK_ := Lib.hid hK_; clear hK_; (first | ((refine wpAppO _ _ 39 rfl W9.heap.size 35 (.int .u16 0) 1 2 Try.underlying39 u16_info rfl (by decide) _ k (advV T k) rfl (owns_below HO1.out (bthen (bdrew1 (brefl wr)) (balloc hbu _)) (Nat.le_refl _)) ⟨wu.heap.size, 0, none⟩ 1 1 [.int .u16 (q : Nat)] rfl rfl (has_alloc _ _ _) (fun u hu => by simp at hu; subst hu; rfl) (by unfold maxLen; omega) (by omega) (by simp; omega) ?_; intro a3 c3 w3' hown3 t31 t32 t33 hb3 hg3; have hk3 := KeptE.grown (owns_below HO1.out (bthen (bdrew1 (brefl wr)) (balloc hbu _)) (Nat.le_refl _)) hg3; have hkw : KeptE 35 wr w3' := ((KeptE.below (bdrew1 (brefl wr))).trans (KeptE.below hbu)).trans ((KeptE.below (balloc (brefl wu) _)).trans hk3); have hw3 := (hkw.2 gw _ _ _ hW (by decide)).trans hW; have h83 := (hkw.2 g8 _ _ _ h8 (by decide)).trans h8; have s3 := cell_of_heap hw3 3; have sf := fun o => froz_of_heap hw3 o; have HO3 := Lib.hid hown3; have HN3 := Lib.hid t33; have HB3 := Lib.hid hb3; have hz3' := hg3.size; clear hown3 t33 hb3 hg3; dsimp only [Act.put]; simp only [List.setIfInBounds_toArray, List.set_cons_succ, List.set_cons_zero])) | (go_wp2_with ((go_at_call 42; (with_reducible refine HU.out.mono ?_); rintro r wu ⟨rfl, hbu⟩; have huz := hbu.size; simp only [World.size_drew] at huz)))); refine HK_.out _ _ (kepE_of (by repeat (first | exact KeptE.refl _ _ | assumption | refine KeptE.trans ?_ (KeptE.below (bdrew1 (brefl _))) | refine KeptE.trans ?_ (KeptE.below (balloc (brefl _) _)) | refine KeptE.trans ?_ (KeptE.below (by assumption)) | refine KeptE.trans ?_ (by assumption)))) ?_; clear HK_)
      (refine z_quiet (by simp only [List.getElem?_toArray, List.getElem?_cons_succ, List.getElem?_cons_zero]; rfl) (by rfl) (by rfl) (fun K_ hK_ => ?_); go_big_quiet_op; refine hK_ _ ?_; clear hK_ K_)
      (refine z_quiet (by simp only [List.getElem?_toArray, List.getElem?_cons_succ, List.getElem?_cons_zero]; rfl) (by rfl) (by rfl) (fun K_ hK_ => ?_); go_big_quiet_op; refine hK_ _ ?_; clear hK_ K_)
      (refine z_last (by simp only [List.getElem?_toArray, List.getElem?_cons_succ, List.getElem?_cons_zero]; rfl) (by rfl) (by rfl) (by rfl) (fun K_ hK_ => ?_); have HK_ := Lib.hid hK_; clear hK_; (first | ((refine wpAppO _ _ 39 rfl W9.heap.size 35 (.int .u16 0) 1 2 Try.underlying39 u16_info rfl (by decide) _ k (advV T k) rfl (owns_below HO1.out (bthen (bdrew1 (brefl wr)) (balloc hbu _)) (Nat.le_refl _)) ⟨wu.heap.size, 0, none⟩ 1 1 [.int .u16 (q : Nat)] rfl rfl (has_alloc _ _ _) (fun u hu => by simp at hu; subst hu; rfl) (by unfold maxLen; omega) (by omega) (by simp; omega) ?_; intro a3 c3 w3' hown3 t31 t32 t33 hb3 hg3; have hk3 := KeptE.grown (owns_below HO1.out (bthen (bdrew1 (brefl wr)) (balloc hbu _)) (Nat.le_refl _)) hg3; have hkw : KeptE 35 wr w3' := ((KeptE.below (bdrew1 (brefl wr))).trans (KeptE.below hbu)).trans ((KeptE.below (balloc (brefl wu) _)).trans hk3); have hw3 := (hkw.2 gw _ _ _ hW (by decide)).trans hW; have h83 := (hkw.2 g8 _ _ _ h8 (by decide)).trans h8; have s3 := cell_of_heap hw3 3; have sf := fun o => froz_of_heap hw3 o; have HO3 := Lib.hid hown3; have HN3 := Lib.hid t33; have HB3 := Lib.hid hb3; have hz3' := hg3.size; clear hown3 t33 hb3 hg3; dsimp only [Act.put]; simp only [List.setIfInBounds_toArray, List.set_cons_succ, List.set_cons_zero])) | (go_wp2_with ((go_at_call 42; (with_reducible refine HU.out.mono ?_); rintro r wu ⟨rfl, hbu⟩; have huz := hbu.size; simp only [World.size_drew] at huz)))); refine HK_.out _ _ ?_; clear HK_)
      refine z_nil ?_
      clear hK0_ hK1_
      have hk3n : Same W9 [gw] w3' := ⟨Nat.le_trans hzr hkw.1, fun j hj hjx => by
        have h1 := HSM.out.block j hj hjx
        have h2 := (HB3.out.block j (by omega))
        have h3 : (wu.alloc (Obj.cells #[.int .u16 (q : Nat)] 35)).heap[j]? = wu.heap[j]? := by rw [heap_push, if_neg (by omega)]
        have h4 := hbu.block j (by simp only [World.size_drew]; omega)
        exact ((h2.trans h3).trans h4).trans h1⟩
      have hB9 : B ≤ W9.heap.size := by omega
      have hBw3 : Below B W9 w3' := (HBL.out.trans ((((brefl wr).drew.trans (hbu.mono (by simp))).trans ((balloc (brefl wu) _).mono (by omega))).mono (by omega))).trans (HB3.out.mono hB9)
      have hBX' := hBw3.setCell (p := ⟨gw, 3, none⟩) hB (.slice a3 (k + 1) c3)
      clear hBw3
      obtain ⟨X, hX⟩ : ∃ X, X = w3'.setCell ⟨gw, 3, none⟩ (.slice a3 (k + 1) c3) := ⟨_, rfl⟩
      have x3 := own_neE HO3.out hw3 (by decide)
      have xo1 := set_owns (o := 3) (.slice a3 (k + 1) c3) HO3.out x3
      have ho2' := hkw.owns HO2.out (by decide)
      have xo2 := set_owns (o := 3) (.slice a3 (k + 1) c3) ho2' (own_neE ho2' hw3 (by decide))
      have xw := set_heap_at (o := 3) (.slice a3 (k + 1) c3) hw3
      have x8 := (set_heap_other (o := 3) (.slice a3 (k + 1) c3) (show g8 ≠ gw by omega)).trans h83
      have xs := set_same (o := 3) (.slice a3 (k + 1) c3) hk3n
      rw [← hX] at xo1 xo2 xw x8 xs hBX' ⊢
      have HBX := Lib.hid hBX'
      clear hBX'
      simp only [List.setIfInBounds_toArray, List.set_cons_succ, List.set_cons_zero] at xw
      have hzX : wr.heap.size ≤ X.heap.size := by rw [hX]; simpa using hkw.1
      have HX1 := Lib.hid xo1
      have HX2 := Lib.hid xo2
      have HXS := Lib.hid xs
      clear hX x3 xo1 xo2 xs ho2' hk3n hw3 h83 s3 sf hk3 hkw hz3' hW h8 r3 r4 rf r8 HU huz hbu
      have c4 := cell_of_heap xw 4
      have cf := fun o => froz_of_heap xw o
      have c8 := cell_of_heap x8 0
      have hgX : gw < X.heap.size := by omega
      have hgX8 : g8 < X.heap.size := by omega
      have hT4 : (T.take (m * 4)).length = m * 4 := by rw [List.length_take, HL1.out]; omega
      have hnT : num (T.take (m * 4)) (4 * k + 2) 2 = num T (4 * k + 2) 2 := num_take T (m * 4) (4 * k + 2) (by omega)
      have hHr := has_same HV9.out HXS.out HNE.out
      have hHt := hHr.take (m * 4)
      rw [bytesV_take] at hHt
      have HU := Lib.hid (i16_z A1 (m * 4) C1 (4 * k + 2) (((k : Nat) : Int) * 4 + 2) (by omega) (T.take (m * 4)) X.drew (hHt.below (bdrew1 (brefl X))) hT4 (by omega) (by omega) hC1m)
      rw [hnT] at HU
      have hn16 := num2_lt T (4 * k + 2)
      have HBE := Lib.hid (show beaV T (k + 1) = beaV T k ++ [.int .i16 (s16 (num T (4 * k + 2) 2))] by simp [beaV, List.range_succ])
      have hs1 : -32768 ≤ s16 (num T (4 * k + 2) 2) ∧ s16 (num T (4 * k + 2) 2) ≤ 32767 := by unfold s16; split <;> omega
      clear hT4 hnT hHr hHt hn16
      generalize s16 (num T (4 * k + 2) 2) = sq at *
      obtain ⟨hs1, hs2⟩ := hs1
      go_wp2_with fail
      refine wp_region_last (.step 0 (.step 1 (.step 2 (.step 3 (.step 4 (.step 5 (.step 6 (.step 7 (.step 8 (.step 9 (.step 10 (.step 11 (.step 12 (.step 13 (.step 14 (.step 15 .nil)))))))))))))))) 15 (by kernel_rfl) (by kernel_rfl) (by kernel_rfl) (by kernel_rfl) (by kernel_rfl) (by intro _ _ d_ _ _ h_; cases d_ <;> first | exact h_ | (dsimp +zetaDelta only at h_ ⊢; exact h_)) (fun w' => ∃ p : KepE 62 X, w' = p.val) (kepE_start _ _) ?_
      have hK0_ := fun (p : KepE 62 X) (o : Nat) => p.is.cell xw (by decide) o
      have hK1_ := fun (p : KepE 62 X) (o : Nat) => p.is.cell x8 (by decide) o
      (refine z_quiet (by simp only [List.getElem?_toArray, List.getElem?_cons_succ, List.getElem?_cons_zero]; rfl) (by rfl) (by rfl) (fun K_ hK_ => ?_); go_big_quiet_op; refine hK_ _ ?_; clear hK_ K_)
      (refine z_quiet (by simp only [List.getElem?_toArray, List.getElem?_cons_succ, List.getElem?_cons_zero]; rfl) (by rfl) (by rfl) (fun K_ hK_ => ?_); go_big_quiet_op; refine hK_ _ ?_; clear hK_ K_)
      (refine z_quiet (by simp only [List.getElem?_toArray, List.getElem?_cons_succ, List.getElem?_cons_zero]; rfl) (by rfl) (by rfl) (fun K_ hK_ => ?_); go_big_quiet_op; refine hK_ _ ?_; clear hK_ K_)
      (refine z_quiet (by simp only [List.getElem?_toArray, List.getElem?_cons_succ, List.getElem?_cons_zero]; rfl) (by rfl) (by rfl) (fun K_ hK_ => ?_); go_big_quiet_op; refine hK_ _ ?_; clear hK_ K_)
      (refine z_quiet (by simp only [List.getElem?_toArray, List.getElem?_cons_succ, List.getElem?_cons_zero]; rfl) (by rfl) (by rfl) (fun K_ hK_ => ?_); go_big_quiet_op; refine hK_ _ ?_; clear hK_ K_)
      (refine z_quiet (by simp only [List.getElem?_toArray, List.getElem?_cons_succ, List.getElem?_cons_zero]; rfl) (by rfl) (by rfl) (fun K_ hK_ => ?_); go_big_quiet_op; refine hK_ _ ?_; clear hK_ K_)
      (refine z_quiet (by simp only [List.getElem?_toArray, List.getElem?_cons_succ, List.getElem?_cons_zero]; rfl) (by rfl) (by rfl) (fun K_ hK_ => ?_); go_big_quiet_op; refine hK_ _ ?_; clear hK_ K_)
      (refine z_quiet (by simp only [List.getElem?_toArray, List.getElem?_cons_succ, List.getElem?_cons_zero]; rfl) (by rfl) (by rfl) (fun K_ hK_ => ?_); go_big_quiet_op; refine hK_ _ ?_; clear hK_ K_)
      (refine z_quiet (by simp only [List.getElem?_toArray, List.getElem?_cons_succ, List.getElem?_cons_zero]; rfl) (by rfl) (by rfl) (fun K_ hK_ => ?_); go_big_quiet_op; refine hK_ _ ?_; clear hK_ K_)
      (refine z_run (by simp only [List.getElem?_toArray, List.getElem?_cons_succ, List.getElem?_cons_zero]; rfl) (by rfl) (by rfl) (fun K_ hK_ => ?_); have HK_ := Lib.hid hK_; clear hK_; (first | ((refine wpAppO _ _ 57 rfl W9.heap.size 62 (.int .i16 0) 1 2 Try.underlying57 i16_info rfl (by decide) _ k (beaV T k) rfl (owns_below HX2.out (bthen (bdrew1 (brefl X)) (balloc hbv _)) (Nat.le_refl _)) ⟨wv.heap.size, 0, none⟩ 1 1 [.int .i16 sq] rfl rfl (has_alloc _ _ _) (fun u hu => by simp at hu; subst hu; rfl) (by unfold maxLen; omega) (by omega) (by simp; omega) ?_; intro a4 c4' w4' hown4 t41 t42 t43 hb4 hg4'; have hk4 := KeptE.grown (owns_below HX2.out (bthen (bdrew1 (brefl X)) (balloc hbv _)) (Nat.le_refl _)) hg4'; have hkx : KeptE 62 X w4' := ((KeptE.below (bdrew1 (brefl X))).trans (KeptE.below hbv)).trans ((KeptE.below (balloc (brefl wv) _)).trans hk4); have hw4 := (hkx.2 gw _ _ _ xw (by decide)).trans xw; have h84 := (hkx.2 g8 _ _ _ x8 (by decide)).trans x8; have s4 := cell_of_heap hw4 4; have sf4 := fun o => froz_of_heap hw4 o; have HO4 := Lib.hid hown4; have HN4 := Lib.hid t43; have HB4 := Lib.hid hb4; have hz4' := hg4'.size; clear hown4 t43 hb4 hg4'; dsimp only [Act.put]; simp only [List.setIfInBounds_toArray, List.set_cons_succ, List.set_cons_zero])) | (go_wp2_with ((go_at_call 46; (with_reducible refine HU.out.mono ?_); rintro r wv ⟨rfl, hbv⟩; have hvz := hbv.size; simp only [World.size_drew] at hvz)))); refine HK_.out _ _ (kepE_of (by repeat (first | exact KeptE.refl _ _ | assumption | refine KeptE.trans ?_ (KeptE.below (bdrew1 (brefl _))) | refine KeptE.trans ?_ (KeptE.below (balloc (brefl _) _)) | refine KeptE.trans ?_ (KeptE.below (by assumption)) | refine KeptE.trans ?_ (by assumption)))) ?_; clear HK_)
      (refine z_quiet (by simp only [List.getElem?_toArray, List.getElem?_cons_succ, List.getElem?_cons_zero]; rfl) (by rfl) (by rfl) (fun K_ hK_ => ?_); go_big_quiet_op; refine hK_ _ ?_; clear hK_ K_)
      (refine z_run (by simp only [List.getElem?_toArray, List.getElem?_cons_succ, List.getElem?_cons_zero]; rfl) (by rfl) (by rfl) (fun K_ hK_ => ?_); have HK_ := Lib.hid hK_; clear hK_; (first | ((refine wpAppO _ _ 57 rfl W9.heap.size 62 (.int .i16 0) 1 2 Try.underlying57 i16_info rfl (by decide) _ k (beaV T k) rfl (owns_below HX2.out (bthen (bdrew1 (brefl X)) (balloc hbv _)) (Nat.le_refl _)) ⟨wv.heap.size, 0, none⟩ 1 1 [.int .i16 sq] rfl rfl (has_alloc _ _ _) (fun u hu => by simp at hu; subst hu; rfl) (by unfold maxLen; omega) (by omega) (by simp; omega) ?_; intro a4 c4' w4' hown4 t41 t42 t43 hb4 hg4'; have hk4 := KeptE.grown (owns_below HX2.out (bthen (bdrew1 (brefl X)) (balloc hbv _)) (Nat.le_refl _)) hg4'; have hkx : KeptE 62 X w4' := ((KeptE.below (bdrew1 (brefl X))).trans (KeptE.below hbv)).trans ((KeptE.below (balloc (brefl wv) _)).trans hk4); have hw4 := (hkx.2 gw _ _ _ xw (by decide)).trans xw; have h84 := (hkx.2 g8 _ _ _ x8 (by decide)).trans x8; have s4 := cell_of_heap hw4 4; have sf4 := fun o => froz_of_heap hw4 o; have HO4 := Lib.hid hown4; have HN4 := Lib.hid t43; have HB4 := Lib.hid hb4; have hz4' := hg4'.size; clear hown4 t43 hb4 hg4'; dsimp only [Act.put]; simp only [List.setIfInBounds_toArray, List.set_cons_succ, List.set_cons_zero])) | (go_wp2_with ((go_at_call 46; (with_reducible refine HU.out.mono ?_); rintro r wv ⟨rfl, hbv⟩; have hvz := hbv.size; simp only [World.size_drew] at hvz)))); refine HK_.out _ _ (kepE_of (by repeat (first | exact KeptE.refl _ _ | assumption | refine KeptE.trans ?_ (KeptE.below (bdrew1 (brefl _))) | refine KeptE.trans ?_ (KeptE.below (balloc (brefl _) _)) | refine KeptE.trans ?_ (KeptE.below (by assumption)) | refine KeptE.trans ?_ (by assumption)))) ?_; clear HK_)
      (refine z_run (by simp only [List.getElem?_toArray, List.getElem?_cons_succ, List.getElem?_cons_zero]; rfl) (by rfl) (by rfl) (fun K_ hK_ => ?_); have HK_ := Lib.hid hK_; clear hK_; (first | ((refine wpAppO _ _ 57 rfl W9.heap.size 62 (.int .i16 0) 1 2 Try.underlying57 i16_info rfl (by decide) _ k (beaV T k) rfl (owns_below HX2.out (bthen (bdrew1 (brefl X)) (balloc hbv _)) (Nat.le_refl _)) ⟨wv.heap.size, 0, none⟩ 1 1 [.int .i16 sq] rfl rfl (has_alloc _ _ _) (fun u hu => by simp at hu; subst hu; rfl) (by unfold maxLen; omega) (by omega) (by simp; omega) ?_; intro a4 c4' w4' hown4 t41 t42 t43 hb4 hg4'; have hk4 := KeptE.grown (owns_below HX2.out (bthen (bdrew1 (brefl X)) (balloc hbv _)) (Nat.le_refl _)) hg4'; have hkx : KeptE 62 X w4' := ((KeptE.below (bdrew1 (brefl X))).trans (KeptE.below hbv)).trans ((KeptE.below (balloc (brefl wv) _)).trans hk4); have hw4 := (hkx.2 gw _ _ _ xw (by decide)).trans xw; have h84 := (hkx.2 g8 _ _ _ x8 (by decide)).trans x8; have s4 := cell_of_heap hw4 4; have sf4 := fun o => froz_of_heap hw4 o; have HO4 := Lib.hid hown4; have HN4 := Lib.hid t43; have HB4 := Lib.hid hb4; have hz4' := hg4'.size; clear hown4 t43 hb4 hg4'; dsimp only [Act.put]; simp only [List.setIfInBounds_toArray, List.set_cons_succ, List.set_cons_zero])) | (go_wp2_with ((go_at_call 46; (with_reducible refine HU.out.mono ?_); rintro r wv ⟨rfl, hbv⟩; have hvz := hbv.size; simp only [World.size_drew] at hvz)))); refine HK_.out _ _ (kepE_of (by repeat (first | exact KeptE.refl _ _ | assumption | refine KeptE.trans ?_ (KeptE.below (bdrew1 (brefl _))) | refine KeptE.trans ?_ (KeptE.below (balloc (brefl _) _)) | refine KeptE.trans ?_ (KeptE.below (by assumption)) | refine KeptE.trans ?_ (by assumption)))) ?_; clear HK_)
      (refine z_quiet (by simp only [List.getElem?_toArray, List.getElem?_cons_succ, List.getElem?_cons_zero]; rfl) (by rfl) (by rfl) (fun K_ hK_ => ?_); go_big_quiet_op; refine hK_ _ ?_; clear hK_ K_)
      (refine z_quiet (by simp only [List.getElem?_toArray, List.getElem?_cons_succ, List.getElem?_cons_zero]; rfl) (by rfl) (by rfl) (fun K_ hK_ => ?_); go_big_quiet_op; refine hK_ _ ?_; clear hK_ K_)
      (refine z_last (by simp only [List.getElem?_toArray, List.getElem?_cons_succ, List.getElem?_cons_zero]; rfl) (by rfl) (by rfl) (by rfl) (fun K_ hK_ => ?_); have HK_ := Lib.hid hK_; clear hK_; (first | ((refine wpAppO _ _ 57 rfl W9.heap.size 62 (.int .i16 0) 1 2 Try.underlying57 i16_info rfl (by decide) _ k (beaV T k) rfl (owns_below HX2.out (bthen (bdrew1 (brefl X)) (balloc hbv _)) (Nat.le_refl _)) ⟨wv.heap.size, 0, none⟩ 1 1 [.int .i16 sq] rfl rfl (has_alloc _ _ _) (fun u hu => by simp at hu; subst hu; rfl) (by unfold maxLen; omega) (by omega) (by simp; omega) ?_; intro a4 c4' w4' hown4 t41 t42 t43 hb4 hg4'; have hk4 := KeptE.grown (owns_below HX2.out (bthen (bdrew1 (brefl X)) (balloc hbv _)) (Nat.le_refl _)) hg4'; have hkx : KeptE 62 X w4' := ((KeptE.below (bdrew1 (brefl X))).trans (KeptE.below hbv)).trans ((KeptE.below (balloc (brefl wv) _)).trans hk4); have hw4 := (hkx.2 gw _ _ _ xw (by decide)).trans xw; have h84 := (hkx.2 g8 _ _ _ x8 (by decide)).trans x8; have s4 := cell_of_heap hw4 4; have sf4 := fun o => froz_of_heap hw4 o; have HO4 := Lib.hid hown4; have HN4 := Lib.hid t43; have HB4 := Lib.hid hb4; have hz4' := hg4'.size; clear hown4 t43 hb4 hg4'; dsimp only [Act.put]; simp only [List.setIfInBounds_toArray, List.set_cons_succ, List.set_cons_zero])) | (go_wp2_with ((go_at_call 46; (with_reducible refine HU.out.mono ?_); rintro r wv ⟨rfl, hbv⟩; have hvz := hbv.size; simp only [World.size_drew] at hvz)))); refine HK_.out _ _ ?_; clear HK_)
      refine z_nil ?_
      clear hK0_ hK1_
      have hk4n : Same W9 [gw] w4' := ⟨Nat.le_trans HXS.out.size hkx.1, fun j hj hjx => by
        have h1 := HXS.out.block j hj hjx
        have hjX : j < X.heap.size := Nat.lt_of_lt_of_le hj HXS.out.size
        have h2 := (HB4.out.block j (by omega))
        have h3 : (wv.alloc (Obj.cells #[.int .i16 sq] 62)).heap[j]? = wv.heap[j]? := by rw [heap_push, if_neg (by omega)]
        have h4 := hbv.block j (by simp only [World.size_drew]; omega)
        exact ((h2.trans h3).trans h4).trans h1⟩
      have hBw4 : Below B W9 w4' := (HBX.out.trans ((((brefl X).drew.trans (hbv.mono (by simp))).trans ((balloc (brefl wv) _).mono (by omega))).mono (by omega))).trans (HB4.out.mono hB9)
      have hBY := hBw4.setCell (p := ⟨gw, 4, none⟩) hB (.slice a4 (k + 1) c4')
      have z1 := hkx.owns HX1.out (by decide)
      have z1' := set_owns (o := 4) (.slice a4 (k + 1) c4') z1 (own_neE z1 hw4 (by decide))
      have z2' := set_owns (o := 4) (.slice a4 (k + 1) c4') HO4.out (own_neE HO4.out hw4 (by decide))
      have zw := set_heap_at (o := 4) (.slice a4 (k + 1) c4') hw4
      have z8 := (set_heap_other (o := 4) (.slice a4 (k + 1) c4') (show g8 ≠ gw by omega)).trans h84
      have zs := set_same (o := 4) (.slice a4 (k + 1) c4') hk4n
      obtain ⟨Y, hY⟩ : ∃ Y, Y = w4'.setCell ⟨gw, 4, none⟩ (.slice a4 (k + 1) c4') := ⟨_, rfl⟩
      rw [← hY] at z1' z2' zw z8 zs hBY ⊢
      have HBY := Lib.hid hBY
      clear hBY hBw4
      simp only [List.setIfInBounds_toArray, List.set_cons_succ, List.set_cons_zero] at zw
      rw [← HAV.out] at z1'
      rw [← HBE.out] at z2'
      have Z1 := Lib.hid z1'
      have Z2 := Lib.hid z2'
      have ZW := Lib.hid zw
      have Z8 := Lib.hid z8
      have ZS := Lib.hid zs
      clear hY z1 z1' z2' zw z8 zs hk4n hw4 h84 s4 sf4 hk4 hkx hz4' c4 cf c8 xw x8 hbv hvz
      go_wp2_with fail
      go_roundw
      case rel => exact ⟨k + 1, a3, c3, a4, c4', by omega, by go_num, ZW.out, Z8.out, Z1.out, Z2.out, HN3.out, HN4.out, t32, t42, t31, t41, ZS.out, HBY.out⟩
      case measure => simp [intOf]; omega
    · obtain rfl : m = k := by omega
      clear hW h8 r3 r4 rf r8
      go_wp2_with fail
      have hgw9' : gw < U.heap.size := Nat.lt_of_lt_of_le hlw HBU.out.size
      have h9r := (HSM.out.block g9 hg9' (by simp; omega)).trans H9.out
      have hz0 := beaV2
      clear hz0
      go_loopw [78] (WRel2 B W9 gw g9 g e m (adv A1 C1 (m * 4)) ((g - m) * 2) (C1 - m * 4) T a1 c1) (fun i _ => (g - m) - (intOf i).toNat)
      case atStart => exact ⟨0, a2, c2, Nat.zero_le _, rfl, HWB.out, h9r, HO1.out, by have := HO2.out; simpa [beaV2] using this, HN2.out, hm2, hk2, HSM.out, HBL.out⟩
      case round =>
        obtain ⟨k, b2, d2, hk, rfl, hW, h9, ho1, ho2, hn2, hm2, hk2, hsm, hbl⟩ := hrel
        have HBL := Lib.hid hbl
        clear hbl
        have HWB := Lib.hid hW
        have HO1 := Lib.hid ho1
        have HO2 := Lib.hid ho2
        have HSM := Lib.hid hsm
        have HN2 := Lib.hid hn2
        have hzr := hsm.size
        have r4 := cell_of_heap hW 4
        have rf := fun o => froz_of_heap hW o
        have r9 := cell_of_heap h9 0
        rename World => wq
        have hgq : gw < wq.heap.size := by omega
        have hgq9 : g9 < wq.heap.size := by omega
        simp only [widV] at hW
        clear ho1 ho2 hsm hn2
        by_cases hlt2 : k < g - m
        · have hT4 : ((T.drop (m * 4)).take ((g - m) * 2)).length = (g - m) * 2 := by rw [List.length_take, List.length_drop, HL1.out]; omega
          have hnT : num ((T.drop (m * 4)).take ((g - m) * 2)) (2 * k) 2 = num T (4 * m + 2 * k) 2 := by
            rw [num_take _ _ _ (by omega), num_drop, show m * 4 + 2 * k = 4 * m + 2 * k by omega]
          have hHr := has_same HV9.out HSM.out HNE.out
          have hHt := (hHr.adv C1 (m * 4) (by rw [bytesV_length, HL1.out]; omega)).take ((g - m) * 2)
          rw [bytesV_drop, bytesV_take] at hHt
          have HU := Lib.hid (i16_z (adv A1 C1 (m * 4)) ((g - m) * 2) (C1 - m * 4) (2 * k) (((k : Nat) : Int) * 2) (by omega) ((T.drop (m * 4)).take ((g - m) * 2)) wq.drew (hHt.below (bdrew1 (brefl wq))) hT4 (by omega) (by omega) (by omega))
          rw [hnT] at HU
          have hn16 := num2_lt T (4 * m + 2 * k)
          have HBE := Lib.hid (show beaV T m ++ beaV2 T m (k + 1) = (beaV T m ++ beaV2 T m k) ++ [.int .i16 (s16 (num T (4 * m + 2 * k) 2))] by simp [beaV2, List.range_succ])
          have hs1 : -32768 ≤ s16 (num T (4 * m + 2 * k) 2) ∧ s16 (num T (4 * m + 2 * k) 2) ≤ 32767 := by unfold s16; split <;> omega
          clear hT4 hnT hHr hHt hn16
          generalize s16 (num T (4 * m + 2 * k) 2) = sq at *
          obtain ⟨hs1, hs2⟩ := hs1
          go_wp2_with fail
          refine wp_region_last (.step 0 (.step 1 (.step 2 (.step 3 (.step 4 (.step 5 (.step 6 (.step 7 (.step 8 (.step 9 (.step 10 (.step 11 (.step 12 (.step 13 (.step 14 .nil))))))))))))))) 14 (by kernel_rfl) (by kernel_rfl) (by kernel_rfl) (by kernel_rfl) (by kernel_rfl) (by intro _ _ d_ _ _ h_; cases d_ <;> first | exact h_ | (dsimp +zetaDelta only at h_ ⊢; exact h_)) (fun w' => ∃ p : KepE 62 wq, w' = p.val) (kepE_start _ _) ?_
          have hK0_ := fun (p : KepE 62 wq) (o : Nat) => p.is.cell hW (by decide) o
          have hK1_ := fun (p : KepE 62 wq) (o : Nat) => p.is.cell h9 (by decide) o
          (refine z_quiet (by simp only [List.getElem?_toArray, List.getElem?_cons_succ, List.getElem?_cons_zero]; rfl) (by rfl) (by rfl) (fun K_ hK_ => ?_); go_big_quiet_op; refine hK_ _ ?_; clear hK_ K_)
          (refine z_quiet (by simp only [List.getElem?_toArray, List.getElem?_cons_succ, List.getElem?_cons_zero]; rfl) (by rfl) (by rfl) (fun K_ hK_ => ?_); go_big_quiet_op; refine hK_ _ ?_; clear hK_ K_)
          (refine z_quiet (by simp only [List.getElem?_toArray, List.getElem?_cons_succ, List.getElem?_cons_zero]; rfl) (by rfl) (by rfl) (fun K_ hK_ => ?_); go_big_quiet_op; refine hK_ _ ?_; clear hK_ K_)
          (refine z_quiet (by simp only [List.getElem?_toArray, List.getElem?_cons_succ, List.getElem?_cons_zero]; rfl) (by rfl) (by rfl) (fun K_ hK_ => ?_); go_big_quiet_op; refine hK_ _ ?_; clear hK_ K_)
          (refine z_quiet (by simp only [List.getElem?_toArray, List.getElem?_cons_succ, List.getElem?_cons_zero]; rfl) (by rfl) (by rfl) (fun K_ hK_ => ?_); go_big_quiet_op; refine hK_ _ ?_; clear hK_ K_)
          (refine z_quiet (by simp only [List.getElem?_toArray, List.getElem?_cons_succ, List.getElem?_cons_zero]; rfl) (by rfl) (by rfl) (fun K_ hK_ => ?_); go_big_quiet_op; refine hK_ _ ?_; clear hK_ K_)
          (refine z_quiet (by simp only [List.getElem?_toArray, List.getElem?_cons_succ, List.getElem?_cons_zero]; rfl) (by rfl) (by rfl) (fun K_ hK_ => ?_); go_big_quiet_op; refine hK_ _ ?_; clear hK_ K_)
          (refine z_quiet (by simp only [List.getElem?_toArray, List.getElem?_cons_succ, List.getElem?_cons_zero]; rfl) (by rfl) (by rfl) (fun K_ hK_ => ?_); go_big_quiet_op; refine hK_ _ ?_; clear hK_ K_)
          (refine z_run (by simp only [List.getElem?_toArray, List.getElem?_cons_succ, List.getElem?_cons_zero]; rfl) (by rfl) (by rfl) (fun K_ hK_ => ?_); have HK_ := Lib.hid hK_; clear hK_; (first | ((refine wpAppO _ _ 57 rfl W9.heap.size 62 (.int .i16 0) 1 2 Try.underlying57 i16_info rfl (by decide) _ (m + k) (beaV T m ++ beaV2 T m k) rfl (owns_below HO2.out (bthen (bdrew1 (brefl wq)) (balloc hbv _)) (Nat.le_refl _)) ⟨wv.heap.size, 0, none⟩ 1 1 [.int .i16 sq] rfl rfl (has_alloc _ _ _) (fun u hu => by simp at hu; subst hu; rfl) (by unfold maxLen; omega) (by omega) (by simp; omega) ?_; intro a4 c4' w4' hown4 t41 t42 t43 hb4 hg4'; have hk4 := KeptE.grown (owns_below HO2.out (bthen (bdrew1 (brefl wq)) (balloc hbv _)) (Nat.le_refl _)) hg4'; have hkx : KeptE 62 wq w4' := ((KeptE.below (bdrew1 (brefl wq))).trans (KeptE.below hbv)).trans ((KeptE.below (balloc (brefl wv) _)).trans hk4); have hw4 := (hkx.2 gw _ _ _ hW (by decide)).trans hW; have h94 := (hkx.2 g9 _ _ _ h9 (by decide)).trans h9; have s4 := cell_of_heap hw4 4; have sf4 := fun o => froz_of_heap hw4 o; have HO4 := Lib.hid hown4; have HN4 := Lib.hid t43; have HB4 := Lib.hid hb4; have hz4' := hg4'.size; clear hown4 t43 hb4 hg4'; dsimp only [Act.put]; simp only [List.setIfInBounds_toArray, List.set_cons_succ, List.set_cons_zero])) | (go_wp2_with ((go_at_call 46; (with_reducible refine HU.out.mono ?_); rintro r wv ⟨rfl, hbv⟩; have hvz := hbv.size; simp only [World.size_drew] at hvz)))); refine HK_.out _ _ (kepE_of (by repeat (first | exact KeptE.refl _ _ | assumption | refine KeptE.trans ?_ (KeptE.below (bdrew1 (brefl _))) | refine KeptE.trans ?_ (KeptE.below (balloc (brefl _) _)) | refine KeptE.trans ?_ (KeptE.below (by assumption)) | refine KeptE.trans ?_ (by assumption)))) ?_; clear HK_)
          (refine z_quiet (by simp only [List.getElem?_toArray, List.getElem?_cons_succ, List.getElem?_cons_zero]; rfl) (by rfl) (by rfl) (fun K_ hK_ => ?_); go_big_quiet_op; refine hK_ _ ?_; clear hK_ K_)
          (refine z_run (by simp only [List.getElem?_toArray, List.getElem?_cons_succ, List.getElem?_cons_zero]; rfl) (by rfl) (by rfl) (fun K_ hK_ => ?_); have HK_ := Lib.hid hK_; clear hK_; (first | ((refine wpAppO _ _ 57 rfl W9.heap.size 62 (.int .i16 0) 1 2 Try.underlying57 i16_info rfl (by decide) _ (m + k) (beaV T m ++ beaV2 T m k) rfl (owns_below HO2.out (bthen (bdrew1 (brefl wq)) (balloc hbv _)) (Nat.le_refl _)) ⟨wv.heap.size, 0, none⟩ 1 1 [.int .i16 sq] rfl rfl (has_alloc _ _ _) (fun u hu => by simp at hu; subst hu; rfl) (by unfold maxLen; omega) (by omega) (by simp; omega) ?_; intro a4 c4' w4' hown4 t41 t42 t43 hb4 hg4'; have hk4 := KeptE.grown (owns_below HO2.out (bthen (bdrew1 (brefl wq)) (balloc hbv _)) (Nat.le_refl _)) hg4'; have hkx : KeptE 62 wq w4' := ((KeptE.below (bdrew1 (brefl wq))).trans (KeptE.below hbv)).trans ((KeptE.below (balloc (brefl wv) _)).trans hk4); have hw4 := (hkx.2 gw _ _ _ hW (by decide)).trans hW; have h94 := (hkx.2 g9 _ _ _ h9 (by decide)).trans h9; have s4 := cell_of_heap hw4 4; have sf4 := fun o => froz_of_heap hw4 o; have HO4 := Lib.hid hown4; have HN4 := Lib.hid t43; have HB4 := Lib.hid hb4; have hz4' := hg4'.size; clear hown4 t43 hb4 hg4'; dsimp only [Act.put]; simp only [List.setIfInBounds_toArray, List.set_cons_succ, List.set_cons_zero])) | (go_wp2_with ((go_at_call 46; (with_reducible refine HU.out.mono ?_); rintro r wv ⟨rfl, hbv⟩; have hvz := hbv.size; simp only [World.size_drew] at hvz)))); refine HK_.out _ _ (kepE_of (by repeat (first | exact KeptE.refl _ _ | assumption | refine KeptE.trans ?_ (KeptE.below (bdrew1 (brefl _))) | refine KeptE.trans ?_ (KeptE.below (balloc (brefl _) _)) | refine KeptE.trans ?_ (KeptE.below (by assumption)) | refine KeptE.trans ?_ (by assumption)))) ?_; clear HK_)
          (refine z_run (by simp only [List.getElem?_toArray, List.getElem?_cons_succ, List.getElem?_cons_zero]; rfl) (by rfl) (by rfl) (fun K_ hK_ => ?_); have HK_ := Lib.hid hK_; clear hK_; (first | ((refine wpAppO _ _ 57 rfl W9.heap.size 62 (.int .i16 0) 1 2 Try.underlying57 i16_info rfl (by decide) _ (m + k) (beaV T m ++ beaV2 T m k) rfl (owns_below HO2.out (bthen (bdrew1 (brefl wq)) (balloc hbv _)) (Nat.le_refl _)) ⟨wv.heap.size, 0, none⟩ 1 1 [.int .i16 sq] rfl rfl (has_alloc _ _ _) (fun u hu => by simp at hu; subst hu; rfl) (by unfold maxLen; omega) (by omega) (by simp; omega) ?_; intro a4 c4' w4' hown4 t41 t42 t43 hb4 hg4'; have hk4 := KeptE.grown (owns_below HO2.out (bthen (bdrew1 (brefl wq)) (balloc hbv _)) (Nat.le_refl _)) hg4'; have hkx : KeptE 62 wq w4' := ((KeptE.below (bdrew1 (brefl wq))).trans (KeptE.below hbv)).trans ((KeptE.below (balloc (brefl wv) _)).trans hk4); have hw4 := (hkx.2 gw _ _ _ hW (by decide)).trans hW; have h94 := (hkx.2 g9 _ _ _ h9 (by decide)).trans h9; have s4 := cell_of_heap hw4 4; have sf4 := fun o => froz_of_heap hw4 o; have HO4 := Lib.hid hown4; have HN4 := Lib.hid t43; have HB4 := Lib.hid hb4; have hz4' := hg4'.size; clear hown4 t43 hb4 hg4'; dsimp only [Act.put]; simp only [List.setIfInBounds_toArray, List.set_cons_succ, List.set_cons_zero])) | (go_wp2_with ((go_at_call 46; (with_reducible refine HU.out.mono ?_); rintro r wv ⟨rfl, hbv⟩; have hvz := hbv.size; simp only [World.size_drew] at hvz)))); refine HK_.out _ _ (kepE_of (by repeat (first | exact KeptE.refl _ _ | assumption | refine KeptE.trans ?_ (KeptE.below (bdrew1 (brefl _))) | refine KeptE.trans ?_ (KeptE.below (balloc (brefl _) _)) | refine KeptE.trans ?_ (KeptE.below (by assumption)) | refine KeptE.trans ?_ (by assumption)))) ?_; clear HK_)
          (refine z_quiet (by simp only [List.getElem?_toArray, List.getElem?_cons_succ, List.getElem?_cons_zero]; rfl) (by rfl) (by rfl) (fun K_ hK_ => ?_); go_big_quiet_op; refine hK_ _ ?_; clear hK_ K_)
          (refine z_quiet (by simp only [List.getElem?_toArray, List.getElem?_cons_succ, List.getElem?_cons_zero]; rfl) (by rfl) (by rfl) (fun K_ hK_ => ?_); go_big_quiet_op; refine hK_ _ ?_; clear hK_ K_)
          (refine z_last (by simp only [List.getElem?_toArray, List.getElem?_cons_succ, List.getElem?_cons_zero]; rfl) (by rfl) (by rfl) (by rfl) (fun K_ hK_ => ?_); have HK_ := Lib.hid hK_; clear hK_; (first | ((refine wpAppO _ _ 57 rfl W9.heap.size 62 (.int .i16 0) 1 2 Try.underlying57 i16_info rfl (by decide) _ (m + k) (beaV T m ++ beaV2 T m k) rfl (owns_below HO2.out (bthen (bdrew1 (brefl wq)) (balloc hbv _)) (Nat.le_refl _)) ⟨wv.heap.size, 0, none⟩ 1 1 [.int .i16 sq] rfl rfl (has_alloc _ _ _) (fun u hu => by simp at hu; subst hu; rfl) (by unfold maxLen; omega) (by omega) (by simp; omega) ?_; intro a4 c4' w4' hown4 t41 t42 t43 hb4 hg4'; have hk4 := KeptE.grown (owns_below HO2.out (bthen (bdrew1 (brefl wq)) (balloc hbv _)) (Nat.le_refl _)) hg4'; have hkx : KeptE 62 wq w4' := ((KeptE.below (bdrew1 (brefl wq))).trans (KeptE.below hbv)).trans ((KeptE.below (balloc (brefl wv) _)).trans hk4); have hw4 := (hkx.2 gw _ _ _ hW (by decide)).trans hW; have h94 := (hkx.2 g9 _ _ _ h9 (by decide)).trans h9; have s4 := cell_of_heap hw4 4; have sf4 := fun o => froz_of_heap hw4 o; have HO4 := Lib.hid hown4; have HN4 := Lib.hid t43; have HB4 := Lib.hid hb4; have hz4' := hg4'.size; clear hown4 t43 hb4 hg4'; dsimp only [Act.put]; simp only [List.setIfInBounds_toArray, List.set_cons_succ, List.set_cons_zero])) | (go_wp2_with ((go_at_call 46; (with_reducible refine HU.out.mono ?_); rintro r wv ⟨rfl, hbv⟩; have hvz := hbv.size; simp only [World.size_drew] at hvz)))); refine HK_.out _ _ ?_; clear HK_)
          refine z_nil ?_
          clear hK0_ hK1_
          have hB9 : B ≤ W9.heap.size := by omega
          have hk4n : Same W9 [gw] w4' := ⟨Nat.le_trans HSM.out.size hkx.1, fun j hj hjx => by
            have h1 := HSM.out.block j hj hjx
            have hjX : j < wq.heap.size := Nat.lt_of_lt_of_le hj HSM.out.size
            have h2 := (HB4.out.block j (by omega))
            have h3 : (wv.alloc (Obj.cells #[.int .i16 sq] 62)).heap[j]? = wv.heap[j]? := by rw [heap_push, if_neg (by omega)]
            have h4 := hbv.block j (by simp only [World.size_drew]; omega)
            exact ((h2.trans h3).trans h4).trans h1⟩
          have hBw4 : Below B W9 w4' := (HBL.out.trans ((((brefl wq).drew.trans (hbv.mono (by simp))).trans ((balloc (brefl wv) _).mono (by omega))).mono (by omega))).trans (HB4.out.mono hB9)
          have hBY := hBw4.setCell (p := ⟨gw, 4, none⟩) hB (.slice a4 (m + k + 1) c4')
          have z1 := hkx.owns HO1.out (by decide)
          have z1' := set_owns (o := 4) (.slice a4 (m + k + 1) c4') z1 (own_neE z1 hw4 (by decide))
          have z2' := set_owns (o := 4) (.slice a4 (m + k + 1) c4') HO4.out (own_neE HO4.out hw4 (by decide))
          have zw := set_heap_at (o := 4) (.slice a4 (m + k + 1) c4') hw4
          have z9 := (set_heap_other (o := 4) (.slice a4 (m + k + 1) c4') (show g9 ≠ gw by omega)).trans h94
          have zs := set_same (o := 4) (.slice a4 (m + k + 1) c4') hk4n
          obtain ⟨Y, hY⟩ : ∃ Y, Y = w4'.setCell ⟨gw, 4, none⟩ (.slice a4 (m + k + 1) c4') := ⟨_, rfl⟩
          rw [← hY] at z1' z2' zw z9 zs hBY ⊢
          simp only [List.setIfInBounds_toArray, List.set_cons_succ, List.set_cons_zero] at zw
          rw [← HBE.out] at z2'
          have Z1 := Lib.hid z1'
          have Z2 := Lib.hid z2'
          have ZW := Lib.hid zw
          have Z9 := Lib.hid z9
          have ZS := Lib.hid zs
          have ZB := Lib.hid hBY
          clear hY z1 z1' z2' zw z9 zs hk4n hw4 h94 s4 sf4 hk4 hkx hz4' hbv hvz hBY hBw4 hW h9 r4 rf r9 HU
          go_wp2_with fail
          go_roundw
          case rel => exact ⟨k + 1, a4, c4', by omega, by go_num, ZW.out, Z9.out, Z1.out, Z2.out, HN4.out, t42, t41, ZS.out, ZB.out⟩
          case measure => simp [intOf]; omega
        · clear hW h9 r4 rf r9
          go_wp2_with fail
          obtain rfl : k = g - m := by omega
          have e0 : m + (g - m) = g := by omega
          have hs1 : Same w [gw] wq := ⟨Nat.le_trans bU9.out.size HSM.out.size, fun j hj hjx => (HSM.out.block j (Nat.lt_of_lt_of_le hj bU9.out.size) hjx).trans (bU9.out.block j hj)⟩
          have hs2 : Below B w wq := (bU9.out.mono (by omega)).trans HBL.out
          have hW := HWB.out
          have ho1 := owns_mono HO1.out bU9.out.size
          have ho2 := owns_mono HO2.out bU9.out.size
          rw [e0] at hW ho2 hk2
          have hfin : ((∃ i, hmtxOk bs g m i ∧ Ending.returned (.tuple #[]) = Ending.returned (.tuple #[]) ∧ WDone w.heap.size gw g e m (tabB bs i) wq) ∨ ((∀ i, ¬ hmtxOk bs g m i) ∧ Ending.returned (.tuple #[]) = .panicked thrown)) ∧ Same w [gw] wq ∧ Below B w wq :=
            ⟨.inl ⟨i, ⟨HI.out, by rw [HLA.out]; exact hfit⟩, rfl, by rw [HT.out]; exact ⟨a1, c1, b2, d2, hW, ho1, ho2, by assumption, hk2, by assumption, hm2⟩⟩, hs1, hs2⟩
          refine bodyPost_end (v := .tuple #[]) (by simp [results, Try.results27, go_sem]; try rfl) rfl hfin
end Go.Proofs.Ythacabmnnpibkaa
