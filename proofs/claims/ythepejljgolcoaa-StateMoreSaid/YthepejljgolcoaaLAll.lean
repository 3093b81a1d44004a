
/- (*Table).All: the contract of its iterator. Conditions: a table in memory, its parts rising, its numbers there; a body of the loop that keeps what it holds. -/
import Derived.RangeFuncNested
import Derived.RangeFuncBound
import Derived.RangeFuncCalls
import Derived.RangeFuncLeaves
import Derived.Shelf.Abstract
import Derived.WalkKit
import Derived.OwnWalkIn
import Derived.TacticsInMore
import Derived.LoopNIn
import Derived.LoopIn
import Derived.Test.YthepejljgolcoaaLRead
namespace Go.Proofs.Ythepejljgolcoaa
open Go.RowKit Go.Lib Go.Shelf
attribute [local go_sem] Oper.semAt_some

/-- All cells but some are as they were, and all below B. -/
structure KeepC (B : Nat) (own : Nat → Nat → Prop) (w w' : World) : Prop where
  below : Below B w w'
  size : w.heap.size ≤ w'.heap.size
  kept : ∀ (k : Nat) (cs : Array Value) (t : Nat) (fz : Nat × Nat), w.heap[k]? = some (.cells cs t fz) → ¬ own k t → w'.heap[k]? = w.heap[k]?
theorem KeepC.refl (B : Nat) (own : Nat → Nat → Prop) (w : World) : KeepC B own w w := ⟨Below.refl _ _, Nat.le_refl _, fun _ _ _ _ _ _ => rfl⟩
theorem KeepC.trans {B : Nat} {own : Nat → Nat → Prop} {a b c : World} (h : KeepC B own a b) (k : KeepC B own b c) : KeepC B own a c :=
  ⟨h.below.trans k.below, Nat.le_trans h.size k.size, fun x cs t fz hx ho => (k.kept x cs t fz ((h.kept x cs t fz hx ho).trans hx) ho).trans (h.kept x cs t fz hx ho)⟩
theorem KeepC.of {B : Nat} {own : Nat → Nat → Prop} {w w' : World} (h : Below w.heap.size w w') (hB : B ≤ w.heap.size) : KeepC B own w w' :=
  ⟨h.mono hB, h.size, fun k _ _ _ hk _ => h.block k (Array.getElem?_eq_some_iff.1 hk).1⟩
theorem KeepC.put {B : Nat} {own : Nat → Nat → Prop} {w : World} (hn : B ≤ w.heap.size) (W : World) (l : Nat) (o o' : Obj) (hl : w.heap.size ≤ l) (h : W.heap[l]? = some o) (hc : o.isCells = false) (hw : o.isWalk = false) : KeepC B own W (W.putObj l o') := by
  refine ⟨belowK_b hn W l o o' hl h hc hw, (grownBy_putObj' W l o').size, fun k cs t fz hk _ => ?_⟩
  refine (grownBy_putObj' W l o').block k (Array.getElem?_eq_some_iff.1 hk).1 ?_
  rintro e
  cases e
  rw [h] at hk
  cases hk
  cases hc
theorem KeepC.owns {B : Nat} {own : Nat → Nat → Prop} {w w' : World} (h : KeepC B own w w') {base size n : Nat} {e' : TypeId} {v : Value} {xs : List Value} (ho : w.ownsRow base e' size v n xs) (h1 : ∀ k, ¬ own k e') : w'.ownsRow base e' size v n xs := by
  refine ⟨ho.1, ?_⟩
  rcases ho.2 with q | ⟨q, cap, cur, hv, hq, hh, r⟩
  · exact .inl q
  · exact .inr ⟨q, cap, cur, hv, hq, by rw [h.kept q _ _ _ hh (h1 q)]; exact hh, r⟩
theorem TabIs.keepC {B B0 g fmt : Nat} {own : Nat → Nat → Prop} {ps : List PartL} {ns : List Nat} {w w' : World} (h : TabIs B g fmt ps ns w) (hk : KeepC B0 own w w') (h1 : ∀ k, ¬ own k 82) (h2 : ∀ k, ¬ own k 110) (h3 : ¬ own g 80) : TabIs B g fmt ps ns w' := by
  obtain ⟨ap, cp, an, cn, e0, e1, e2⟩ := h.is
  exact ⟨ap, cp, an, cn, (hk.kept g _ _ _ e0 h3).trans e0, hk.owns e1 h1, hk.owns e2 h2⟩
/-- A part's glyphs and their numbers, in order. -/
def glyphsP (ns : List Nat) (p : PartL) (d : Nat) : List (Int × Int) := (List.range d).map fun (d : Nat) => ((p.first : Int) + (d : Int), ((ns.getD (p.at_ + p.step * d) 0 : Nat) : Int))
def allL (ns : List Nat) (ps : List PartL) : List (Int × Int) := ps.flatMap fun p => glyphsP ns p (p.last + 1 - p.first)
theorem glyphsP_succ (ns : List Nat) (p : PartL) (d : Nat) : glyphsP ns p (d + 1) = glyphsP ns p d ++ [((p.first : Int) + (d : Int), ((ns.getD (p.at_ + p.step * d) 0 : Nat) : Int))] := by simp [glyphsP, List.range_succ]
theorem allL_succ (ns : List Nat) (ps : List PartL) (k : Nat) (p : PartL) (h : ps[k]? = some p) : allL ns (ps.take (k + 1)) = allL ns (ps.take k) ++ glyphsP ns p (p.last + 1 - p.first) := by
  rw [List.take_add_one, h]; simp [allL]
theorem glyphsP_prefix (ns : List Nat) (p : PartL) {d e : Nat} (h : d ≤ e) : glyphsP ns p d <+: glyphsP ns p e := by
  obtain ⟨m, rfl⟩ : ∃ m, e = d + m := ⟨e - d, by omega⟩
  exact ⟨(List.range' d m).map fun (d : Nat) => ((p.first : Int) + (d : Int), ((ns.getD (p.at_ + p.step * d) 0 : Nat) : Int)), by rw [glyphsP, glyphsP, ← List.map_append, List.range_eq_range', List.range_eq_range', ← List.range'_append_1, Nat.zero_add]⟩
theorem allL_prefix (ns : List Nat) (ps : List PartL) (k : Nat) (p : PartL) (h : ps[k]? = some p) {d : Nat} (hd : d ≤ p.last + 1 - p.first) : allL ns (ps.take k) ++ glyphsP ns p d <+: allL ns ps := by
  have h1 : allL ns (ps.take (k + 1)) <+: allL ns ps := ⟨allL ns (ps.drop (k + 1)), by unfold allL; rw [← List.flatMap_append, List.take_append_drop]⟩
  rw [allL_succ ns ps k p h] at h1
  exact ((List.prefix_append_right_inj _).2 (glyphsP_prefix ns p hd)).trans h1
theorem allL_lt (ns : List Nat) (ps : List PartL) (k : Nat) (p : PartL) (h : ps[k]? = some p) {d : Nat} (hd : d < p.last + 1 - p.first) : (allL ns (ps.take k) ++ glyphsP ns p d).length < (allL ns ps).length := by
  have := (allL_prefix ns ps k p h (show d + 1 ≤ _ from hd)).length_le
  rw [glyphsP_succ] at this
  simp only [List.length_append, List.length_cons, List.length_nil] at this ⊢
  omega
abbrev encG (x : Int × Int) : Array Value := #[.int .i64 x.1, .int .i64 x.2]

theorem abides_below {B : Nat} {J : List (Int × Int) → World → Prop} (h : AbidesFrom B J) {s : List (Int × Int)} {w w' : World} (hj : J s w) (hb : Below w.heap.size w w') : J s w' :=
  h s w w' none hj ⟨hb.os, hb.tape, hb.output, hb.size, fun k hk _ => hb.block k hk⟩ (fun r e => by cases e)
theorem all_any (g : Nat) (w : World) : Calls Try.prog 12 #[.pointer (some ⟨g, 0, none⟩)] w fun e w' => e = .returned (.func (.func 33) #[] #[.pointer (some ⟨w.heap.size, 0, none⟩)]) ∧ w' = w.alloc (.cells #[.pointer (some ⟨g, 0, none⟩)] 23) := by
  have hmf : ∀ (fn : Fn) (first cap : Array Value) (w : World), (Instr.makeFunc fn first cap).run Try.prog w = .ok (.func fn first cap) w := fun _ _ _ _ => rfl
  go_enter Try.func12, Try.ntmps12
  go_wp2_with fail
  go_ret
  exact ⟨rfl, rfl⟩
set_option maxRecDepth 100000 in
set_option maxHeartbeats 3200000 in
theorem all1_any (B B0 g fmt Bs : Nat) (own : Nat → Nat → Prop) (ps : List PartL) (ns : List Nat) (l : Nat) (J Jx : List (Int × Int) → World → Prop) (W : World) (hJ : AbidesFrom W.heap.size J)
    (hY : ∀ pre x W1, J pre W1 → x ∈ allL ns ps → pre.length < (allL ns ps).length → YieldAt Fence.wide (3 - 1) Try.prog l (encG x) W1 fun e W' => (e = .returned (.bool true) ∧ J (pre ++ [x]) W' ∧ KeepC B0 own W1 W') ∨ (e = .returned (.bool false) ∧ Jx (pre ++ [x]) W'))
    (h0 : J [] W) (hT : TabIs B g fmt ps ns W) (hf : FitL ps ns) (hBs : W.heap[Bs]? = some (.cells #[.pointer (some ⟨g, 0, none⟩)] 23 (0, 0)))
    (h1 : ∀ k, ¬ own k 82) (h2 : ∀ k, ¬ own k 110) (h3 : ¬ own g 80) (h4 : ¬ own Bs 23) :
    CallsIn Fence.wide 3 Try.prog 33 #[.func (.yield l) #[] #[], .pointer (some ⟨Bs, 0, none⟩)] W fun e W' => (∃ v, e = .returned v) ∧ ((∃ ys, ys = allL ns ps ∧ J ys W') ∨ (∃ pre, pre <+: allL ns ps ∧ Jx pre W')) := by
  refine callsIn_of_wp Try.func33 rfl trivial ?_ rfl
  simp only [Try.ntmps33, List.size_toArray, List.length_cons, List.length_nil, Nat.reduceAdd, Nat.reduceSub, Array.replicate_succ, Array.replicate_zero, List.push_toArray, List.append_toArray, List.nil_append, List.cons_append]
  have HJ := Lib.hid hJ
  have HY := Lib.hid hY
  have HT := Lib.hid hT
  have HF := Lib.hid hf
  have HBS := Lib.hid hBs
  have q1 := cell_of_heap hBs 0
  simp only [List.getElem?_toArray, List.getElem?_cons_zero] at q1
  obtain ⟨ap, cp, an, cn, e0, e1, e2⟩ := hT.is
  have c1 := cell_of_heap e0 1
  simp only [List.getElem?_toArray, List.getElem?_cons_succ, List.getElem?_cons_zero] at c1
  have hlen := hf.few
  have HE1 := Lib.hid e1
  clear hJ hY hT hf hBs e0 e1 e2
  generalize hL : ps.length = L at *
  have HL := Lib.hid hL
  clear hL
  gi_wp2
  gi_loopw [11] (fun i wr => ∃ k : Nat, k ≤ L ∧ i = .int .i64 k ∧ J (allL ns (ps.take k)) wr ∧ TabIs B g fmt ps ns wr ∧ wr.heap[Bs]? = some (.cells #[.pointer (some ⟨g, 0, none⟩)] 23 (0, 0)) ∧ wr.ownsRow B 82 4 (.slice ap L cp) L (partsL ps))
    (fun i _ => L - (intOf i).toNat)
  case atStart => exact ⟨0, Nat.zero_le _, rfl, h0, HT.out, HBS.out, HE1.out⟩
  case round =>
    obtain ⟨k, hk, rfl, hJk, hTk, hBk, hEk⟩ := hrel
    have HJK := Lib.hid hJk
    have HTK := Lib.hid hTk
    have HBK := Lib.hid hBk
    have HEK := Lib.hid hEk
    clear hJk hTk hBk hEk c1 q1
    by_cases hlt : k < L
    · obtain ⟨p, hp⟩ : ∃ p, ps[k]? = some p := ⟨_, List.getElem?_eq_getElem (by rw [HL.out]; exact hlt)⟩
      have hmem := List.mem_of_getElem? hp
      obtain ⟨b0, b1, b2, b3⟩ := partsL_get ps k p hp
      obtain ⟨gq, hap⟩ : ∃ gq, ap = some ⟨gq, 0, none⟩ := by
        rcases HEK.out.2 with ⟨hv, hn0⟩ | ⟨gq, cap, cur, hv, _⟩
        · omega
        · injection hv with ea _ _
          exact ⟨gq, ea⟩
      have HAP := Lib.hid hap
      have hek := HEK.out
      rw [hap] at hek ⊢
      have k0 := (hek.cellAt (k * 4) (by omega)).trans b0
      have k1 := (hek.cellAt (k * 4 + 1) (by omega)).trans b1
      have k2 := (hek.cellAt (k * 4 + 2) (by omega)).trans b2
      have k3 := (hek.cellAt (k * 4 + 3) (by omega)).trans b3
      obtain ⟨s1, s2, s3⟩ := HF.out.ok p hmem
      have hfl := HF.out.rising.2 p hmem
      have HOF := Lib.hid (fun (d : Nat) (hd : d ≤ p.last - p.first) (V : World) (ht : TabIs B g fmt ps ns V) => tof_any B g fmt ps ns p d _ rfl V ht (by rcases s1 with s | s <;> rw [s] at s2 ⊢ <;> omega) s1 ⟨by omega, HF.out.many⟩ HF.out.num)
      have HPP := Lib.hid hp
      have HSU := Lib.hid (allL_succ ns ps k p hp)
      have HGS := Lib.hid (glyphsP_succ ns p)
      have HLT := Lib.hid (fun d (hd : d < p.last + 1 - p.first) => allL_lt ns ps k p hp hd)
      have HPX := Lib.hid (fun d (hd : d ≤ p.last + 1 - p.first) => allL_prefix ns ps k p hp hd)
      have HG0 := Lib.hid (show glyphsP ns p 0 = [] from rfl)
      clear b0 b1 b2 b3 hap hek hmem hp s1 s2 
      generalize allL ns (ps.take k) = done at *
      obtain ⟨f1, f2, f3, f4⟩ := p
      simp only at *
      gi_wp2
      obtain ⟨U, hU⟩ : ∃ U, U = wr.alloc (Obj.cells #[.int .i64 (f1 : Nat), .int .i64 (f2 : Nat), .int .i64 (f3 : Nat), .int .i64 (f4 : Nat)] 82) := ⟨_, rfl⟩
      have hbU : Below wr.heap.size wr U := by rw [hU]; exact balloc (brefl _) _
      have cP : U.heap[wr.heap.size]? = some (.cells #[.int .i64 (f1 : Nat), .int .i64 (f2 : Nat), .int .i64 (f3 : Nat), .int .i64 (f4 : Nat)] 82 (0, 0)) := by rw [hU, heap_push, if_pos rfl]
      have HCP := Lib.hid cP
      have HJU := Lib.hid (abides_below HJ.out HJK.out hbU)
      have HTU := Lib.hid (HTK.out.below hbU)
      have HBU := Lib.hid ((hbU.block Bs (Array.getElem?_eq_some_iff.1 HBK.out).1).trans HBK.out)
      have HEU := Lib.hid (owns_below HEK.out hbU (Nat.le_refl _))
      rw [← hU]
      clear hU hbU cP k0 k1 k2 k3
      generalize wr.heap.size = gb at *
      gi_loopw [5] (fun i wv => ∃ d : Nat, d ≤ f2 + 1 - f1 ∧ i = .int .i64 ((f1 : Int) + (d : Int)) ∧ J (done ++ glyphsP ns ⟨f1, f2, f3, f4⟩ d) wv ∧ TabIs B g fmt ps ns wv ∧ wv.heap[Bs]? = some (.cells #[.pointer (some ⟨g, 0, none⟩)] 23 (0, 0)) ∧ wv.ownsRow B 82 4 (.slice ap L cp) L (partsL ps) ∧
          wv.heap[gb]? = some (.cells #[.int .i64 (f1 : Nat), .int .i64 (f2 : Nat), .int .i64 (f3 : Nat), .int .i64 (f4 : Nat)] 82 (0, 0)))
        (fun i _ => ((f2 : Int) + 1 - intOf i).toNat)
      case atStart => exact ⟨0, Nat.zero_le _, by simp, by rw [HG0.out, List.append_nil]; exact HJU.out, HTU.out, HBU.out, HEU.out, HCP.out⟩
      case round =>
        obtain ⟨d, hd, rfl, hJd, hTd, hBd, hEd, hPd⟩ := hrel
        have HJD := Lib.hid hJd
        have HTD := Lib.hid hTd
        have HBD := Lib.hid hBd
        have HED := Lib.hid hEd
        have HPD := Lib.hid hPd
        have p0 := cell_of_heap hPd 0
        have p1 := cell_of_heap hPd 1
        have p2 := cell_of_heap hPd 2
        have p3 := cell_of_heap hPd 3
        have b0 := cell_of_heap hBd 0
        simp only [List.getElem?_toArray, List.getElem?_cons_succ, List.getElem?_cons_zero] at p0 p1 p2 p3 b0
        clear hJd hTd hBd hEd hPd
        by_cases hdl : d < f2 + 1 - f1
        · have hid : (f1 : Int) + (d : Int) ≤ (f2 : Int) := by omega
          have hdd : decide ((f1 : Int) + (d : Int) ≤ (f2 : Int)) = true := by simpa using hid
          have HOD := Lib.hid (HOF.out d (by omega))
          have HGD := Lib.hid (HGS.out d)
          have hLT := HLT.out d hdl
          have HPD2 := Lib.hid (HPX.out (d + 1) (by omega))
          have HLT2 := Lib.hid hLT
          have HMM := Lib.hid (show ((f1 : Int) + (d : Int), ((ns.getD (f3 + f4 * d) 0 : Nat) : Int)) ∈ allL ns ps from HPD2.out.subset (by rw [HGD.out]; simp))
          clear hLT
          generalize ns.getD (f3 + f4 * d) 0 = v at *
          gi_wp2
          refine ⟨trivial, (callsIn_wide.2 (HOD.out _ HTD.out)).mono ?_⟩
          rintro e wb ⟨rfl, hbb⟩
          have HJB := Lib.hid (abides_below HJ.out HJD.out hbb)
          obtain ⟨fn, tmps, assign, body, hy, hR⟩ := HY.out _ ((f1 : Int) + (d : Int), ((v : Nat) : Int)) wb HJB.out HMM.out HLT2.out
          rw [List.append_assoc, ← HGD.out] at hR
          dsimp only [encG] at hy
          have HTB := Lib.hid (HTD.out.below hbb)
          have HBB := Lib.hid ((hbb.block Bs (Array.getElem?_eq_some_iff.1 HBD.out).1).trans HBD.out)
          have HEB := Lib.hid (owns_below HED.out hbb (Nat.le_refl _))
          have HPB := Lib.hid ((hbb.block gb (Array.getElem?_eq_some_iff.1 HPD.out).1).trans HPD.out)
          clear hbb p0 p1 p2 p3 b0
          gi_wp2
          refine hR.mono ?_
          rintro e W3 (⟨rfl, hJ3, hk3⟩ | ⟨rfl, hJx3⟩)
          · have HJ3 := Lib.hid hJ3
            have HT3 := Lib.hid (HTB.out.keepC hk3 h1 h2 h3)
            have HB3 := Lib.hid ((hk3.kept Bs _ _ _ HBB.out h4).trans HBB.out)
            have HE3 := Lib.hid (hk3.owns HEB.out h1)
            have HP3 := Lib.hid ((hk3.kept gb _ _ _ HPB.out (h1 gb)).trans HPB.out)
            clear hJ3 hk3 hy hR
            gi_wp2
            go_roundw
            case rel => exact ⟨d + 1, by omega, by first | (congr 1; done) | go_num | (congr 1; push_cast; omega), HJ3.out, HT3.out, HB3.out, HE3.out, HP3.out⟩
            case measure => simp [intOf]; omega
          · gi_wp2
            refine bodyPost_ret (results_none rfl _ _ _) rfl ?_
            exact ⟨⟨_, rfl⟩, .inr ⟨_, HPD2.out, hJx3⟩⟩
        · obtain rfl : d = f2 + 1 - f1 := by omega
          have hid : ¬ (f1 : Int) + ((f2 + 1 - f1 : Nat) : Int) ≤ (f2 : Int) := by omega
          gi_wp2
          go_roundw
          case rel => exact ⟨k + 1, by omega, by simp, by rw [HSU.out]; exact HJD.out, HTD.out, HBD.out, by rw [← HAP.out]; exact HED.out⟩
          case measure => simp [intOf]; omega
    · obtain rfl : k = L := by omega
      gi_wp2
      go_end0
      have hJk := HJK.out
      rw [List.take_of_length_le (by rw [HL.out]; exact Nat.le_refl _)] at hJk
      exact ⟨⟨_, rfl⟩, .inl ⟨_, rfl, hJk⟩⟩
end Go.Proofs.Ythepejljgolcoaa
