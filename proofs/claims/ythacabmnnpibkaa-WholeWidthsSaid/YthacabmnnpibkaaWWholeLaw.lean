
/- The walk of WholeWidths. Condition: as many advances as the slice says. -/
import Derived.Test.YthacabmnnpibkaaWShortLaw
import Derived.Test.YthacabmnnpibkaaMake
namespace Go.Proofs.Ythacabmnnpibkaa
open Go.RowKit Go.Lib

def tAbcd : ByteArray := { data := #[97, 98, 99, 100] }
theorem spart_info : (Try.prog.info? 49).map (fun i => (i.zero, i.size, i.bytes)) = some (some (.agg #[.string .empty, .slice none 0 0]), 2, 40) := by kernel_rfl
theorem make_empty (g : Nat) (w : World) (hh : Has w (some ⟨g, 0, none⟩) [.string tAbcd, .slice none 0 0]) :
    Calls Try.prog 19 #[.slice (some ⟨g, 0, none⟩) 1 1] w fun e w' => ∃ a' c', e = .returned (.slice a' 28 c') ∧ Below w.heap.size w w' := by
  obtain ⟨p0, hp0⟩ : ∃ p0 : PartV, p0 = ⟨tAbcd, none, 0, 0, []⟩ := ⟨_, rfl⟩
  have hok : p0.ok w := by rw [hp0]; exact ⟨Has.nil _ _, rfl, Nat.le_refl _, Nat.zero_le _, fun _ => rfl, by decide⟩
  have hone : ∀ p ∈ [p0], p = p0 := fun p hp => List.mem_singleton.1 hp
  have htag : p0.tag.size = 4 := by rw [hp0]; rfl
  have hlen : p0.bs.length = p0.n := by rw [hp0]; rfl
  refine (make_any (some ⟨g, 0, none⟩) 1 1 [p0] w (by rw [hp0]; exact hh) rfl (Nat.le_refl _) (by decide) (fun h => by cases h) (by decide) (fun p hp => by rw [hone p hp]; exact hok)).mono ?_
  rintro e w' ⟨rs, hp, hr, h, hb⟩
  obtain rfl : rs = [p0] := List.perm_singleton.1 hp
  have hfine : fine [p0] := (fine_iff (by simp [Rises])).2 ⟨fun p hp => by rw [hone p hp]; exact htag, by simp [Apart], by show 1 ≤ 4000; decide⟩
  rcases h with ⟨_, a', c', he, _⟩ | ⟨hno, _⟩
  · have hl := font_length (rs := [p0]) (fun p hp => by rw [hone p hp]; exact htag) (fun p hp => by rw [hone p hp]; exact hlen)
    have ht : tot [p0] = 0 := by rw [hp0]; rfl
    rw [hl, ht] at he
    exact ⟨a', c', he, hb⟩
  · exact absurd hfine hno
def listK (turned : Bool) (ps : List PartV) (p4 : PartV) (k : Nat) : List PartV := if turned then (ps.take k).reverse ++ [p4] else p4 :: ps.take k
theorem listK_length (t : Bool) (ps : List PartV) (p4 : PartV) (k : Nat) (h : k ≤ ps.length) : (listK t ps p4 k).length = k + 1 := by
  cases t <;> simp [listK] <;> omega
theorem listK_succ (t : Bool) (ps : List PartV) (p4 p : PartV) (k : Nat) (h : ps[k]? = some p) : listK t ps p4 (k + 1) = if t then p :: listK t ps p4 k else listK t ps p4 k ++ [p] := by
  have hk := (List.getElem?_eq_some_iff.1 h).1
  have e : ps.take (k + 1) = ps.take k ++ [p] := by rw [List.take_add_one, h]; rfl
  cases t <;> simp [listK, e]
theorem listK_perm (t : Bool) (p1 p2 p3 p4 : PartV) : (listK t [p1, p2, p3] p4 3).Perm [p1, p2, p3, p4] := by
  cases t
  · exact (List.perm_append_singleton p4 [p1, p2, p3]).symm
  · show ([p3, p2, p1] ++ [p4]).Perm ([p1, p2, p3] ++ [p4])
    exact List.Perm.append (List.reverse_perm [p1, p2, p3]) (List.Perm.refl _)
/-- The code's own Make of four parts, in whatever order. -/
theorem make_four (a : Option Addr) (c : Nat) (ps : List PartV) (p1 p2 p3 p4 : PartV) (base : Nat) (w : World) (hh : Has w a (encAll ps)) (hps : ps.Perm [p1, p2, p3, p4]) (hc4 : 4 ≤ c) (hcm : c ≤ maxLen) (hA : a = none → c = 0) (o1 : Bytes w base p1) (o2 : Bytes w base p2) (o3 : Bytes w base p3) (o4 : Bytes w base p4)
    (t1 : p1.tag = sMaxp) (t2 : p2.tag = sHead) (t3 : p3.tag = sHhea) (t4 : p4.tag = tHmtx) {g e m : Nat} (b1 : p1.bs = maxpB g) (b2 : p2.bs = headB e) (b3 : p3.bs = hheaB m) (hg : g ≤ 65535) (he : e ≤ 65535) (hm : m ≤ 65535) (h4 : p4.n ≤ 100000) :
    Calls Try.prog 19 #[.slice a 4 c] w fun r w' => ∃ a' n' c' F, r = .returned (.slice a' n' c') ∧ Has w' a' (bytesV F) ∧ F.length = n' ∧ n' ≤ c' ∧ c' ≤ maxLen ∧ Plain4 F g e m p4.bs ∧ Below w.heap.size w w' := by
  have n1 : p1.n = 6 := by rw [← o1.len, b1]; simp [maxpB, be4, be2]
  have n2 : p2.n = 54 := by rw [← o2.len, b2]; simp [headB, be4, be2]
  have n3 : p3.n = 36 := by rw [← o3.len, b3]; simp [hheaB, be2]
  have hall : ∀ p ∈ [p1, p2, p3, p4], p = p1 ∨ p = p2 ∨ p = p3 ∨ p = p4 := fun p hp => by simpa using hp
  have hok : ∀ p ∈ [p1, p2, p3, p4], p.ok w := fun p hp => by
    rcases hall p hp with rfl | rfl | rfl | rfl
    · exact o1.ok (by omega)
    · exact o2.ok (by omega)
    · exact o3.ok (by omega)
    · exact o4.ok (by omega)
  have h4s : ∀ p ∈ [p1, p2, p3, p4], p.tag.size = 4 := fun p hp => by
    rcases hall p hp with rfl | rfl | rfl | rfl
    · rw [t1]; rfl
    · rw [t2]; rfl
    · rw [t3]; rfl
    · rw [t4]; rfl
  refine (make_any a 4 c ps w hh hps.length_eq hc4 hcm (fun h => by have := hA h; omega) (by decide) (fun p hp => hok p (hps.mem_iff.1 hp))).mono ?_
  rintro r w' ⟨rs, hp, hr0, h, hb⟩
  have hr := rises_of hr0
  have hp4 := hp.trans hps
  have hf : fine rs := (fine_iff hr).2 ⟨fun p hp' => h4s p (hp4.mem_iff.1 hp'), apart_perm hp4.symm (four_apart t1 t2 t3 t4), by rw [hp4.length_eq]; show 4 ≤ 4000; decide⟩
  rcases h with ⟨_, a', c', rfl, hown, k1, k2, k3⟩ | ⟨hno, _⟩
  case inr => exact absurd hf hno
  have hbs : ∀ p ∈ rs, p.bs.length = p.n := fun p hp' => by
    rcases hall p (hp4.mem_iff.1 hp') with rfl | rfl | rfl | rfl
    · exact o1.len
    · exact o2.len
    · exact o3.len
    · exact o4.len
  have hlen : rs.length = 4 := hp4.length_eq
  have htot : tot rs ≤ rs.length * 100003 := tot_le w rs fun p hp' => hok p (hp4.mem_iff.1 hp')
  have hsz : 12 + 16 * rs.length + tot rs < 4294967296 := by omega
  obtain ⟨i, f1, f2, f3⟩ := font_tab hf hr hbs hsz (p := p4) (hp4.mem_iff.2 (by simp))
  rw [t4] at f1
  exact ⟨a', _, c', font rs, rfl, has_of_owns hown, rfl, k1, k2, ⟨plain_good hf hr hbs hsz (hp4.mem_iff.2 (by simp)) (hp4.mem_iff.2 (by simp)) (hp4.mem_iff.2 (by simp)) t1 t2 t3 b1 b2 b3 hg he hm, i, f1, by rw [f2, o4.len], f3⟩, hb⟩
def RowsRel (f : Nat → Nat) (w : World) (vs : List Nat) (h i : Value) (wr : World) : Prop :=
  ∃ (k L : Nat) (a' : Option Addr) (c' : Nat), k ≤ vs.length ∧ L = 4 * k ∧ i = .int .i64 (k : Nat) ∧ h = .slice a' L c' ∧ wr.ownsRow w.heap.size 5 1 (.slice a' L c') L (bytesV (rowsF vs f k)) ∧ L ≤ c' ∧ c' ≤ maxLen ∧ (a' = none → c' = 0) ∧ Below w.heap.size w wr
def WWRel (w v8 : World) (t : Bool) (ps : List PartV) (p4 : PartV) (l i : Value) (wr : World) : Prop :=
  ∃ (k L : Nat) (a' : Option Addr) (c' : Nat), k ≤ 3 ∧ L = k + 1 ∧ i = .int .i64 (k : Nat) ∧ l = .slice a' L c' ∧ wr.ownsRow w.heap.size 49 2 (.slice a' L c') L (encAll (listK t ps p4 k)) ∧ L ≤ c' ∧ c' ≤ maxLen ∧ (a' = none → c' = 0) ∧ KeptE 49 v8 wr ∧ Below w.heap.size w wr

theorem lit1 (w : World) (base g : Nat) (hg : g = w.heap.size) (hb : base ≤ g) (p : PartV) : (w.alloc (.cells #[.string p.tag, .slice p.a p.n p.c] 49)).ownsRow base 49 2 (.slice (some ⟨g, 0, none⟩) 1 1) 1 (PartV.enc p) := by
  subst hg
  exact World.ownsRow_lit w #[.string p.tag, .slice p.a p.n p.c] 1 hb (by decide) rfl
theorem lit1h (w : World) (g : Nat) (hg : g = w.heap.size) (p : PartV) : Has (w.alloc (.cells #[.string p.tag, .slice p.a p.n p.c] 49)) (some ⟨g, 0, none⟩) (PartV.enc p) := by
  subst hg
  exact has_alloc w #[.string p.tag, .slice p.a p.n p.c] _

theorem fldF0 (x0 x1 x2 : Value) (w : World) : (Instr.field 29 (.agg #[x0, x1, x2]) 0).run Try.prog w = .ok x0 w := by kernel_rfl
theorem fldF1 (x0 x1 x2 : Value) (w : World) : (Instr.field 29 (.agg #[x0, x1, x2]) 1).run Try.prog w = .ok x1 w := by kernel_rfl

set_option maxRecDepth 100000 in
set_option maxHeartbeats 6400000 in
theorem wholeWidths_walk (a : Option Addr) (n c : Nat) (vs : List Nat) (em : Nat) (turned : Bool) (w : World) (h : Has w a (u16V vs)) (hl : vs.length = n) (hn : n ≤ c) (hc : c ≤ maxLen) (hv : ∀ s ∈ vs, s ≤ 65535) (hem : em ≤ 65535) :
    Calls Try.prog 8 #[.slice a n c, .int .u16 (em : Nat), .bool turned] w fun r w' => r = .returned (.bool true) ∧ Below w.heap.size w w' := by
  have hAC := allocC
  have HH := Lib.hid h
  have HL := Lib.hid hl
  have HV := Lib.hid hv
  have hcm := hc
  unfold maxLen at hcm
  have HE := Lib.hid (show ∀ W : World, Has (W.alloc (.cells #[.string tAbcd, .slice none 0 0] 49)) (some ⟨W.heap.size, 0, none⟩) [.string tAbcd, .slice none 0 0] from fun W => has_alloc W _ _)
  clear h hl hv
  go_enter Try.func8, Try.ntmps8
  go_wp2_with fail
  refine (make_empty _ _ (HE.out w)).mono ?_
  rintro r w1 ⟨a1, c1, rfl, hb1⟩
  have HB1 := Lib.hid (show Below w.heap.size w w1 from (by repeat (first | exact brefl _ | assumption | refine balloc ?_ _ | refine bdrew ?_ _ | refine bdrew1 ?_ | refine bthen ?_ (by assumption) | refine Below.trans ?_ (by assumption) | (refine bset ?_ (by first | (simp; done) | (simp; omega)) _))))
  clear hb1
  by_cases h0 : n = 0
  · subst h0
    go_wp2_with fail
    go_ret
    exact ⟨rfl, HB1.out⟩
  have hz : ((n : Int) == 0) = false := by simp; omega
  by_cases h2 : 300 < n
  · go_wp2_with fail
    go_ret
    exact ⟨rfl, HB1.out⟩
  have hz2 : decide (300 < (n : Int)) = false := by simp; omega
  have hz3 : decide (300 < n) = false := by simp; omega
  go_wp2_with fail
  obtain ⟨u, hu⟩ : ∃ u, u = 16 + em % 16000 := ⟨_, rfl⟩
  have hu1 : 16 ≤ u := by omega
  have hu2 : u ≤ 16384 := by omega
  rw [show (16 : Int) + (em : Int) % 16000 = (u : Int) by omega]
  clear hu
  go_loopw [9, 40] (RowsRel (fun _ => 0) w vs) (fun _ i _ => n - (intOf i).toNat)
  case atStart => exact ⟨0, 0, none, 0, Nat.zero_le _, rfl, rfl, rfl, World.ownsRow_nil _ _ _ _, Nat.le_refl _, Nat.zero_le _, fun _ => rfl, HB1.out⟩
  case round =>
    obtain ⟨k, L, a', c', hk, hLk, rfl, rfl, hown, k1, k2, k3, hbr⟩ := hrel
    rw [HL.out] at hk
    have HO := Lib.hid hown
    have HN := Lib.hid k3
    have HBR := Lib.hid hbr
    have HLK := Lib.hid hLk
    have hzr := hbr.size
    have hL5 : L ≤ 4000 := by omega
    clear hown k3 hbr hLk
    by_cases hlt : k < n
    · have HLT := Lib.hid hlt
      obtain ⟨b, o, rfl, hlb, hg⟩ := HH.out.get (by rw [u16V_length, HL.out]; omega)
      have hcell := (HBR.out.cell (p := ⟨b, o + k, none⟩) hlb).trans (hg k _ (u16V_get vs k (by rw [HL.out]; exact hlt)))
      have hsk : vs.getD k 0 ≤ 65535 := HV.out _ (by rw [List.getD_eq_getElem?_getD, List.getElem?_eq_getElem (by rw [HL.out]; exact hlt)]; exact List.getElem_mem _)
      have HSU := Lib.hid (rowsF_succ vs (fun _ => 0) k)
      generalize vs.getD k 0 = s at *
      have hlr : b < wr.heap.size := Nat.lt_of_lt_of_le hlb HBR.out.size
      generalize rowsF vs (fun _ => 0) k = R at *
      clear hg
      go_wp2_with (first
        | (go_at_call 18; (with_reducible refine (put_z w.heap.size a' L c' s 2 _ _ ?_ ?_ R _ ?_ ?_ ?_ ?_ ?_).mono ?_); (· first | rfl | omega); (· rfl); (· exact HO.out); (· exact hzr); (· omega); (· omega); (· decide); rintro e_ v1 ⟨b1, d1, rfl, hown1, q1, r1, s1, hc1, hd1⟩; have O1 := Lib.hid hown1; have S1 := Lib.hid s1; have C1 := Lib.hid hc1; have z1 := hd1.1; clear hown1 s1 hc1 hd1)
        | (go_at_call 18; (with_reducible refine (put_z w.heap.size b1 (L + 2) d1 0 2 _ _ ?_ ?_ (R ++ beN 2 s) _ ?_ ?_ ?_ ?_ ?_).mono ?_); (· first | rfl | omega); (· rfl); (· exact O1.out); (· omega); (· omega); (· omega); (· decide); rintro e_ v2 ⟨b2, d2, rfl, hown2, q2, r2, s2, hc2, hd2⟩; have O2 := Lib.hid hown2; have S2 := Lib.hid s2; have C2 := Lib.hid hc2; have z2 := hd2.1; clear hown2 s2 hc2 hd2))
      go_roundw
      case rel => exact ⟨k + 1, L + 2 + 2, b2, d2, by rw [HL.out]; exact HLT.out, by have := HLK.out; omega, by go_num, rfl, by rw [HSU.out, ← beN2, ← beN2]; exact O2.out, q2, r2, S2.out, HBR.out.trans (C1.out.trans C2.out)⟩
      case measure => simp [intOf]; have := HLT.out; omega
    · obtain rfl : k = n := by omega
      rename World => W
      have HTL := Lib.hid (show (rowsF vs (fun _ => 0) k).length = L by rw [rowsF_length, HLK.out])
      generalize hRR : rowsF vs (fun _ => 0) k = R at *
      have HRR := Lib.hid hRR
      clear hRR
      go_wp2_with (first
        | (go_at_call 10; refine (plain_z k u k _ _ _ rfl rfl rfl _ (by omega) (by omega) (by omega)).mono ?_; rintro r v8 ⟨p1, p2, p3, gb, rfl, ho, o1, o2, o3, t1, t2, t3, b1, b2, b3, hb8⟩; have HO8 := Lib.hid ho; have P1 := Lib.hid o1; have P2 := Lib.hid o2; have P3 := Lib.hid o3; have T1 := Lib.hid t1; have T2 := Lib.hid t2; have T3 := Lib.hid t3; have B1 := Lib.hid b1; have B2 := Lib.hid b2; have B3 := Lib.hid b3; have z8 := hb8.size; have C8 := Lib.hid hb8; clear ho o1 o2 o3 t1 t2 t3 b1 b2 b3 hb8))
      obtain ⟨p4, hp4⟩ : ∃ p4 : PartV, p4 = ⟨tHmtx, a', L, c', R⟩ := ⟨_, rfl⟩
      have b7 : Below W.heap.size W (W.alloc (Obj.cells #[.string { data := #[104, 109, 116, 120] }, .slice a' L c'] 49)) := balloc (brefl _) _
      have Y4 : Bytes v8 w.heap.size p4 := by
        have h4 : Bytes W w.heap.size p4 := by rw [hp4]; exact ⟨HO.out, HTL.out, k1, k2, HN.out⟩
        exact (h4.below b7 (Nat.le_refl _)).below C8.out (Nat.le_refl _)
      have hz7 : w.heap.size ≤ (W.alloc (Obj.cells #[.string { data := #[104, 109, 116, 120] }, .slice a' L c'] 49)).heap.size := by simp; omega
      have hB8 : Below w.heap.size w v8 := (HBR.out.trans (b7.mono hzr)).trans (C8.out.mono hz7)
      have hE4 : ∀ t, encAll (listK t [p1, p2, p3] p4 0) = [.string { data := #[104, 109, 116, 120] }, .slice a' L c'] := fun t => by cases t <;> simp [listK, encAll, PartV.enc, hp4, tHmtx]
      have hO0 : v8.ownsRow w.heap.size 49 2 (.slice (some ⟨W.heap.size, 0, none⟩) 1 1) 1 (encAll (listK turned [p1, p2, p3] p4 0)) := by
        rw [hE4]
        exact owns_below (World.ownsRow_lit W #[.string { data := #[104, 109, 116, 120] }, .slice a' L c'] 1 hzr (by decide) rfl) C8.out (Nat.le_refl _)
      have Y1 := Lib.hid (P1.out.mono hz7)
      have Y2 := Lib.hid (P2.out.mono hz7)
      have Y3 := Lib.hid (P3.out.mono hz7)
      have Y4' := Lib.hid Y4
      have HO0 := Lib.hid hO0
      have HB8 := Lib.hid hB8
      have HP4 := Lib.hid hp4
      clear b7 Y4 hB8 hE4 hO0 hp4 P1 P2 P3 C8
      go_loopw [12, 60] (WWRel w v8 turned [p1, p2, p3] p4) (fun _ i _ => 3 - (intOf i).toNat)
      case atStart => exact ⟨0, 1, _, 1, Nat.zero_le _, rfl, rfl, rfl, HO0.out, Nat.le_refl _, by decide, (fun h => by cases h), KeptE.refl _ _, HB8.out⟩
      case round =>
        obtain ⟨i, M, am, cm, hi, hM, rfl, rfl, hown, m1, m2, m3, hke, hbr⟩ := hrel
        have HOM := Lib.hid hown
        have HNM := Lib.hid m3
        have HBM := Lib.hid hbr
        have HKE := Lib.hid hke
        have HMI := Lib.hid hM
        have hzm := hbr.size
        have hM4 : M ≤ 4 := by omega
        clear hown m3 hbr hke hM
        by_cases hlt : i < 3
        · have HLT := Lib.hid hlt
          obtain ⟨p, hp⟩ : ∃ p, [p1, p2, p3][i]? = some p := ⟨_, List.getElem?_eq_getElem (by simpa using hlt)⟩
          have hO27 := HKE.out.owns HO8.out (by decide)
          obtain ⟨x0, x1⟩ := encAll_get _ _ _ hp
          have y0 := (hO27.cellAt (i * 2) (show i * 2 < 3 * 2 by omega)).trans x0
          have y1 := (hO27.cellAt (i * 2 + 1) (show i * 2 + 1 < 3 * 2 by omega)).trans x1
          have hgb : gb < wr.heap.size := (hO27.lt _ rfl).2
          have hgne : ¬ gb = wr.heap.size := by omega
          have hgne2 : ¬ gb = wr.heap.size + 1 := by omega
          clear hO27 x0 x1
          cases turned with
          | false =>
            have HLS := Lib.hid (show encAll (listK false [p1, p2, p3] p4 (i + 1)) = encAll (listK false [p1, p2, p3] p4 i) ++ PartV.enc p by rw [listK_succ _ _ _ _ _ hp]; simp [encAll])
            clear hp
            go_wp2_with (first | (at_builtin; go_loud (refine wpApp rfl _ _ 50 rfl w.heap.size 49 (.agg #[.string .empty, .slice none 0 0]) 2 40 Try.underlying50 spart_info rfl (by decide) _ M (encAll (listK false [p1, p2, p3] p4 i)) rfl (owns_below HOM.out (show Below wr.heap.size wr _ from (by repeat (first | exact brefl _ | assumption | refine balloc ?_ _ | refine bdrew ?_ _ | refine bdrew1 ?_ | refine bthen ?_ (by assumption) | refine Below.trans ?_ (by assumption) | (refine bset ?_ (by first | (simp; done) | (simp; omega)) _)))) (Nat.le_refl _)) _ 1 1 (PartV.enc p) rfl rfl (lit1h _ _ (by simp) p) (fun h => by cases h) (fun u hu => by simp [PartV.enc] at hu; rcases hu with rfl | rfl <;> rfl) (by unfold maxLen; omega) (by omega) (by simp; omega) ?_); intro a9 c9 w9 hown9 q9 r9 s9 hc9 hg9; have O9 := Lib.hid hown9; have S9 := Lib.hid s9; have K9 := Lib.hid ((HKE.out.trans (KeptE.below (show Below wr.heap.size wr _ from (by repeat (first | exact brefl _ | assumption | refine balloc ?_ _ | refine bdrew ?_ _ | refine bdrew1 ?_ | refine bthen ?_ (by assumption) | refine Below.trans ?_ (by assumption) | (refine bset ?_ (by first | (simp; done) | (simp; omega)) _)))))).trans (KeptE.grown (owns_below HOM.out (show Below wr.heap.size wr _ from (by repeat (first | exact brefl _ | assumption | refine balloc ?_ _ | refine bdrew ?_ _ | refine bdrew1 ?_ | refine bthen ?_ (by assumption) | refine Below.trans ?_ (by assumption) | (refine bset ?_ (by first | (simp; done) | (simp; omega)) _)))) (Nat.le_refl _)) hg9)); have C9 := Lib.hid (HBM.out.trans ((Below.mono (show Below wr.heap.size wr _ from (by repeat (first | exact brefl _ | assumption | refine balloc ?_ _ | refine bdrew ?_ _ | refine bdrew1 ?_ | refine bthen ?_ (by assumption) | refine Below.trans ?_ (by assumption) | (refine bset ?_ (by first | (simp; done) | (simp; omega)) _)))) hzm).trans hc9)); clear hown9 s9 hc9 hg9))
            go_roundw
            case rel => exact ⟨i + 1, _, a9, c9, HLT.out, by have := HMI.out; omega, by go_num, rfl, by rw [HLS.out]; exact O9.out, q9, r9, S9.out, K9.out, C9.out⟩
            case measure => simp [intOf]; have := HLT.out; omega
          | true =>
            have HLS := Lib.hid (show encAll (listK true [p1, p2, p3] p4 (i + 1)) = PartV.enc p ++ encAll (listK true [p1, p2, p3] p4 i) by rw [listK_succ _ _ _ _ _ hp]; simp [encAll])
            clear hp
            go_wp2_with (first | (at_builtin; go_loud (refine wpApp rfl _ _ 50 rfl w.heap.size 49 (.agg #[.string .empty, .slice none 0 0]) 2 40 Try.underlying50 spart_info rfl (by decide) _ 1 (PartV.enc p) rfl (lit1 _ w.heap.size _ (by simp) (by omega) p) am M cm (encAll (listK true [p1, p2, p3] p4 i)) rfl (by rw [encAll_length, listK_length _ _ _ _ (by simp; omega), HMI.out]) ((has_of_owns HOM.out).below (show Below wr.heap.size wr _ from (by repeat (first | exact brefl _ | assumption | refine balloc ?_ _ | refine bdrew ?_ _ | refine bdrew1 ?_ | refine bthen ?_ (by assumption) | refine Below.trans ?_ (by assumption) | (refine bset ?_ (by first | (simp; done) | (simp; omega)) _))))) HNM.out (encAll_one _) (by unfold maxLen; omega) (by omega) (by simp; omega) ?_); intro a9 c9 w9 hown9 q9 r9 s9 hc9 hg9; have O9 := Lib.hid hown9; have S9 := Lib.hid s9; have K9 := Lib.hid ((HKE.out.trans (KeptE.below (show Below wr.heap.size wr _ from (by repeat (first | exact brefl _ | assumption | refine balloc ?_ _ | refine bdrew ?_ _ | refine bdrew1 ?_ | refine bthen ?_ (by assumption) | refine Below.trans ?_ (by assumption) | (refine bset ?_ (by first | (simp; done) | (simp; omega)) _)))))).trans (KeptE.grown (lit1 _ w.heap.size _ (by simp) (by omega) p) hg9)); have C9 := Lib.hid (HBM.out.trans ((Below.mono (show Below wr.heap.size wr _ from (by repeat (first | exact brefl _ | assumption | refine balloc ?_ _ | refine bdrew ?_ _ | refine bdrew1 ?_ | refine bthen ?_ (by assumption) | refine Below.trans ?_ (by assumption) | (refine bset ?_ (by first | (simp; done) | (simp; omega)) _)))) hzm).trans hc9)); clear hown9 s9 hc9 hg9))
            go_roundw
            case rel => exact ⟨i + 1, _, a9, c9, HLT.out, by have := HMI.out; omega, by go_num, rfl, by rw [HLS.out]; exact O9.out, q9, r9, S9.out, K9.out, C9.out⟩
            case measure => simp [intOf]; have := HLT.out; omega
        · obtain rfl : i = 3 := by omega
          obtain rfl : M = 4 := HMI.out
          have HM := Lib.hid (make_four am cm _ p1 p2 p3 p4 w.heap.size wr (has_of_owns HOM.out) (listK_perm turned p1 p2 p3 p4) m1 m2 HNM.out (Y1.out.keptE HKE.out (by decide)) (Y2.out.keptE HKE.out (by decide)) (Y3.out.keptE HKE.out (by decide)) (Y4'.out.keptE HKE.out (by decide)) T1.out T2.out T3.out (by rw [HP4.out]) B1.out B2.out B3.out (by omega) (by omega) (by omega) (by rw [HP4.out]; show L ≤ 100000; omega))
          go_wp2_with fail
          refine HM.out.mono ?_
          clear HM
          rintro r vm ⟨af, nf, cf, F, rfl, hF, hFl, f1, f2, hP, hbm⟩
          have hP' : Plain4 F k u k R := by rw [HP4.out] at hP; exact hP
          have HW := Lib.hid (wread_four af nf cf F k u k R vm hF hFl f1 f2 hP' ⟨hu1, hu2⟩ (by omega) (by rw [HTL.out]; have := HLK.out; omega))
          have HBF := Lib.hid (HBM.out.trans (hbm.mono hzm))
          clear hF hFl hP hP' hbm
          go_wp2_with fail
          refine HW.out.mono ?_
          clear HW
          rintro r vr ⟨gw, rfl, hdn, hgw, hbr5⟩
          have HBV := Lib.hid (HBF.out.trans (hbr5.mono HBF.out.size))
          have HA := Lib.hid (fun (id : Int) (hid : -9223372036854775808 ≤ id ∧ id ≤ 9223372036854775807) W' (hb : Below vr.heap.size vr W') => adv_any vm.heap.size gw k u k R id W' (hdn.below hb) (by omega) (by omega) (by omega) hid)
          obtain ⟨s1, e1, s2, e2, hg0, _⟩ := hdn
          have HFA := Lib.hid (fun W' (hb : Below vr.heap.size vr W') => wface_any gw k u k _ _ W' ((hb.block gw (Array.getElem?_eq_some_iff.1 hg0).1).trans hg0))
          unfold faceV at HFA
          clear hg0 hbr5
          have hF0 := fldF0
          have hF1 := fldF1
          go_wp2_with (first | (go_at_call 20; (with_reducible refine (HFA.out _ (by exact (by repeat (first | exact brefl _ | assumption | refine balloc ?_ _ | refine bdrew ?_ _ | refine bdrew1 ?_ | refine bthen ?_ (by assumption) | refine Below.trans ?_ (by assumption) | (refine bset ?_ (by first | (simp; done) | (simp; omega)) _))))).mono ?_); rintro e wf ⟨rfl, hbf⟩; have hfc := bc hbf; have hff := bf hbf; have hfz := hbf.size; try simp only [World.size_alloc, World.size_drew] at hfz))
          go_loopw [108] (LastRel vr k) (fun i _ => k - (intOf i).toNat)
          case atStart => exact ⟨0, Nat.zero_le _, rfl, (by repeat (first | exact brefl _ | assumption | refine balloc ?_ _ | refine bdrew ?_ _ | refine bdrew1 ?_ | refine bthen ?_ (by assumption) | refine Below.trans ?_ (by assumption) | (refine bset ?_ (by first | (simp; done) | (simp; omega)) _)))⟩
          case round =>
            obtain ⟨i, hi, rfl, hbr⟩ := hrel
            have HBR := Lib.hid hbr
            have HBX := Lib.hid (HBV.out.trans (hbr.mono HBV.out.size))
            have hzv := hbr.size
            clear hbr
            by_cases hlt : i < k
            · have HLT := Lib.hid hlt
              obtain ⟨b, o, rfl, hlb, hg⟩ := HH.out.get (by rw [u16V_length, HL.out]; omega)
              have hcell := (HBX.out.cell (p := ⟨b, o + i, none⟩) hlb).trans (hg _ _ (u16V_get vs i (by rw [HL.out]; omega)))
              have hbl : b < wr.heap.size := Nat.lt_of_lt_of_le hlb HBX.out.size
              have hs6 : vs.getD i 0 ≤ 65535 := HV.out _ (by rw [List.getD_eq_getElem?_getD, List.getElem?_eq_getElem (by rw [HL.out]; omega)]; exact List.getElem_mem _)
              have hq : advOf k k R (i : Nat) = vs.getD i 0 := by
                have h := adv_rows vs (fun _ => 0) k k i [] (by omega) hlt HV.out HL.out (fun j hj => Nat.zero_le _)
                rwa [List.append_nil, HRR.out, show min i (k - 1) = i by omega] at h
              have HAI := Lib.hid (fun W' (hb : Below vr.heap.size vr W') => hq ▸ HA.out (i : Nat) (by omega) W' hb)
              clear hq hg
              generalize vs.getD i 0 = s at *
              go_wp2_with (first | (go_at_call 16; (with_reducible refine (HAI.out _ (HBR.out.trans (Below.mono (show Below wr.heap.size wr _ from (by repeat (first | exact brefl _ | assumption | refine balloc ?_ _ | refine bdrew ?_ _ | refine bdrew1 ?_ | refine bthen ?_ (by assumption) | refine Below.trans ?_ (by assumption) | (refine bset ?_ (by first | (simp; done) | (simp; omega)) _)))) hzv))).mono ?_); rintro e wa ⟨rfl, hba⟩; have hac := bc hba; have haf := bf hba; have haz := hba.size; try simp only [World.size_alloc, World.size_drew] at haz))
              go_roundw
              case rel => exact ⟨i + 1, HLT.out, by go_num, HBR.out.trans (Below.mono (show Below wr.heap.size wr _ from (by repeat (first | exact brefl _ | assumption | refine balloc ?_ _ | refine bdrew ?_ _ | refine bdrew1 ?_ | refine bthen ?_ (by assumption) | refine Below.trans ?_ (by assumption) | (refine bset ?_ (by first | (simp; done) | (simp; omega)) _)))) HBR.out.size)⟩
              case measure => simp [intOf]; have := HLT.out; omega
            · obtain rfl : i = k := by omega
              go_wp2_with fail
              go_ret
              exact ⟨rfl, HBX.out.trans (Below.mono (show Below wr.heap.size wr _ from (by repeat (first | exact brefl _ | assumption | refine balloc ?_ _ | refine bdrew ?_ _ | refine bdrew1 ?_ | refine bthen ?_ (by assumption) | refine Below.trans ?_ (by assumption) | (refine bset ?_ (by first | (simp; done) | (simp; omega)) _)))) HBX.out.size)⟩
end Go.Proofs.Ythacabmnnpibkaa
