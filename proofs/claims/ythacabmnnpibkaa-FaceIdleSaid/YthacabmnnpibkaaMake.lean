
/- The contract of sfnt.Make. -/
import Derived.Test.YthacabmnnpibkaaPClone
import Derived.Test.YthacabmnnpibkaaSf3
import Derived.Test.YthacabmnnpibkaaKept
import Derived.Test.YthacabmnnpibkaaZeros
import Derived.Lib.AppendZeros
import Derived.Lib.AppendStr
namespace Go.Proofs.Ythacabmnnpibkaa
open Go.RowKit

/-- A part's bytes are there. -/
structure PartV.ok (w : World) (p : PartV) : Prop where
  has : Has w p.a (bytesV p.bs)
  len : p.bs.length = p.n
  le : p.n ≤ p.c
  max : p.c ≤ maxLen
  nil : p.a = none → p.c = 0
  small : p.n ≤ 100000
def rowOf (p : PartV) (at_ : Nat) : List UInt8 := p.tag.data.toList ++ [cks p.bs p.n, at_, p.n].flatMap be4
def rowsOf : Nat → List PartV → List UInt8
  | _, [] => []
  | at_, p :: ps => rowOf p at_ ++ rowsOf (at_ + p.n + lackN p.n) ps
def dataOf (p : PartV) : List UInt8 := p.bs ++ List.replicate (lackN p.n) 0
def font (ps : List PartV) : List UInt8 := hdr ps.length ++ rowsOf (12 + 16 * ps.length) ps ++ ps.flatMap dataOf
theorem own_some {w : World} {base n : Nat} {p : Addr} {c : Nat} {ps : List PartV} (h : w.ownsRow base 49 2 (.slice (some p) n c) n (encAll ps)) :
    ∃ g, p = ⟨g, 0, none⟩ ∧ base ≤ g ∧ g < w.heap.size ∧ ∀ j, j < n * 2 → w.frozen? ⟨g, 0 + j, none⟩ = false := by
  rcases h.2 with ⟨hv, rfl⟩ | ⟨g, cap, cur, hv, hb, hg, hnc, _, hs, _⟩
  · cases hv
  · injection hv with h1 h2 h3
    injection h1 with h1
    refine ⟨g, h1, hb, (Array.getElem?_eq_some_iff.1 hg).1, fun j hj => ?_⟩
    simp [World.frozen?, hg]
theorem own_has {w : World} {base n c : Nat} {a : Option Addr} {ps : List PartV} (h : w.ownsRow base 49 2 (.slice a n c) n (encAll ps)) : Has w a (encAll ps) := by
  rcases h.2 with ⟨hv, rfl⟩ | ⟨g, cap, cur, hv, hb, hg, hnc, hcm, hs, ht⟩
  · have : encAll ps = [] := List.eq_nil_of_length_eq_zero (by simpa using h.1)
    rw [this]; exact Has.nil _ _
  · injection hv with h1 h2 h3
    subst h1
    intro j u hu
    refine ⟨_, rfl, ?_⟩
    rw [add_at]
    rw [← ht] at hu
    have hj : j < n * 2 := by
      have := (List.getElem?_eq_some_iff.1 hu).1
      simp at this; omega
    rw [List.getElem?_take, if_pos hj] at hu
    simp only [World.cell?, hg, Nat.zero_add]
    simpa using hu

theorem strCells_bytes (s : ByteArray) : Lib.strCells s = bytesV s.data.toList := rfl
theorem wpAppS {P : Program} {w : World} {ops : Array Oper} {rest : List Oper} {o : Oper} {a : Act} {Q : Exit → Act → World → Prop} (hgd : o.guard = none) (s x : Operand) (t u : TypeId)
    (ho : o.op = .call { callee := .builtin .append, args := #[s, x], argTypes := #[t, u] })
    (base : Nat) (e : TypeId) (ht : P.underlying t = some (.slice e)) (hu : P.underlying u = some .string) (hi : (P.info? e).map (fun i => (i.zero, i.size, i.bytes)) = some (some (.int .u8 0), 1, 1))
    (v : Value) (n : Nat) (xs : List UInt8) (hs : a.eval s = v) (hown : w.ownsRow base e 1 v n (bytesV xs)) (str : ByteArray) (hx : a.eval x = .string str) (hb : n + str.size ≤ 140737488355328) (hbase : base ≤ w.heap.size)
    (h' : ∀ a' c' w', w'.ownsRow base e 1 (.slice a' (n + str.size) c') (n + str.size) (bytesV (xs ++ str.data.toList)) → n + str.size ≤ c' → c' ≤ maxLen → (a' = none → c' = 0) → Below base w w' → w.grownBy w' v.ownBlock → wpList P ops Q rest (a.put o.dst (.slice a' (n + str.size) c')) w') : wpList P ops Q (o :: rest) a w := by
  obtain ⟨i, hi, hz, hz1, hz2⟩ := info_parts hi
  refine Lib.wpList_append_own_string w hgd s x t u ho base e i ht hu hi hz hz1 hz2 v n (bytesV xs) hs hown str hx (by unfold maxLen; omega) hb hbase ?_
  intro v' w' g1 g2 _
  obtain ⟨a', c', rfl, k1, k2, k3⟩ := owns_slice g1
  refine h' a' c' w' (by rw [bytesV_append, ← strCells_bytes]; exact g1) k1 k2 k3 ((Below.refl base w).grown g2 hbase fun k hk => (hown.lt k hk).1) g2
/-- 'append' of so many noughts onto a slice of the call's own. -/
theorem wpAppZ {P : Program} {w : World} {ops : Array Oper} {rest : List Oper} {o : Oper} {a : Act} {Q : Exit → Act → World → Prop} (hgd : o.guard = none) (s x : Operand) (t tn u : TypeId)
    (ho : o.op = .call { callee := .builtin .append, args := #[s, x], argTypes := #[t, tn] })
    (base : Nat) (e : TypeId) (ht : P.underlying t = some (.slice e)) (htn : P.underlying tn = some (.int .i64)) (hu : P.underlying u = some .string) (hi : (P.info? e).map (fun i => (i.zero, i.size, i.bytes)) = some (some (.int .u8 0), 1, 1))
    (v : Value) (n : Nat) (xs : List UInt8) (hs : a.eval s = v) (hown : w.ownsRow base e 1 v n (bytesV xs)) (k : Nat) (hx : a.eval x = .int .i64 k) (hb : n + k ≤ 140737488355328) (hbase : base ≤ w.heap.size)
    (h' : ∀ a' c' w', w'.ownsRow base e 1 (.slice a' (n + k) c') (n + k) (bytesV (xs ++ List.replicate k 0)) → n + k ≤ c' → c' ≤ maxLen → (a' = none → c' = 0) → Below base w w' → wpList P ops Q rest (a.put o.dst (.slice a' (n + k) c')) w') : wpList P ops Q (o :: rest) a w := by
  obtain ⟨i, hi, hz, hz1, hz2⟩ := info_parts hi
  obtain ⟨a0, c0, rfl, _, _, _⟩ := owns_slice hown
  have hsz : (str (List.replicate k 0)).size = k := by simp [str, ByteArray.size]
  obtain ⟨v', w', hr, g1, g2, _⟩ := Lib.run_append_own_string (P := P) w base t u o.type e i ht hu hi hz hz1 hz2 _ n (bytesV xs) hown (str (List.replicate k 0)) (by rw [hsz]; unfold maxLen; omega) (by rw [hsz]; exact hb) hbase
  rw [← run_zeros w t tn u o.type e i ht htn hu hi hz hz1 hz2 a0 n c0 k hb] at hr
  rw [hsz] at g1
  have e1 : bytesV xs ++ Lib.strCells (str (List.replicate k 0)) = bytesV (xs ++ List.replicate k 0) := by
    rw [bytesV_append, strCells_bytes]; simp [str]
  rw [e1] at g1
  obtain ⟨a', c', rfl, k1, k2, k3⟩ := owns_slice g1
  exact Lib.wpList_append_run w hgd s x t tn ho _ _ hs hx _ w' hr (h' a' c' w' g1 k1 k2 k3 ((Below.refl base w).grown g2 hbase fun k hk => (hown.lt k hk).1))
def tot : List PartV → Nat
  | [] => 0
  | p :: ps => p.n + lackN p.n + tot ps
theorem tot_append (l : List PartV) (p : PartV) : tot (l ++ [p]) = tot l + (p.n + lackN p.n) := by
  induction l with
  | nil => simp [tot]
  | cons q l ih => simp only [List.cons_append, tot, ih]; omega
theorem rowsOf_append (at_ : Nat) (l : List PartV) (p : PartV) : rowsOf at_ (l ++ [p]) = rowsOf at_ l ++ rowOf p (at_ + tot l) := by
  induction l generalizing at_ with
  | nil => simp [rowsOf, tot]
  | cons q l ih =>
    simp only [List.cons_append, rowsOf, ih, tot, List.append_assoc]
    rw [show at_ + q.n + lackN q.n + tot l = at_ + (q.n + lackN q.n + tot l) by omega]
theorem take_snoc {rs : List PartV} {k : Nat} {p : PartV} (h : rs[k]? = some p) : rs.take (k + 1) = rs.take k ++ [p] := by
  rw [List.take_add_one, h]; rfl
def MakeRel2 (W : World) (rs : List PartV) (n : Nat) (out i : Value) (wr : World) : Prop :=
  ∃ k a c, k ≤ n ∧ i = .int .i64 (k : Nat) ∧ out = .slice a (12 + 16 * n + tot (rs.take k)) c ∧ wr.ownsRow W.heap.size 5 1 out (12 + 16 * n + tot (rs.take k)) (bytesV (hdr n ++ rowsOf (12 + 16 * n) rs ++ (rs.take k).flatMap dataOf)) ∧ 12 + 16 * n + tot (rs.take k) ≤ c ∧ c ≤ maxLen ∧ (a = none → c = 0) ∧ Below W.heap.size W wr
theorem bdrew1' {B : Nat} {w W : World} (h : Below B w W) : Below B w W.drew := h.drew
def MakeRel1 (W : World) (rs : List PartV) (n : Nat) (out at_ i : Value) (wr : World) : Prop :=
  ∃ k a c, k ≤ n ∧ i = .int .i64 (k : Nat) ∧ at_ = .int .i64 ((12 + 16 * n + tot (rs.take k) : Nat) : Int) ∧ out = .slice a (12 + 16 * k) c ∧ wr.ownsRow W.heap.size 5 1 out (12 + 16 * k) (bytesV (hdr n ++ rowsOf (12 + 16 * n) (rs.take k))) ∧ 12 + 16 * k ≤ c ∧ c ≤ maxLen ∧ (a = none → c = 0) ∧ Below W.heap.size W wr

theorem tot_le (w : World) : ∀ l : List PartV, (∀ p ∈ l, p.ok w) → tot l ≤ l.length * 100003
  | [], _ => by simp [tot]
  | p :: l, h => by
    have h1 := tot_le w l (fun q hq => h q (by simp [hq]))
    have h2 := (h p (by simp)).small
    have h3 : lackN p.n ≤ 3 := by unfold lackN; omega
    simp only [tot, List.length_cons]
    omega
theorem put32_three (w : World) (base n : Nat) (a : Option Addr) (c : Nat) (xs : List UInt8) (x0 x1 x2 : Nat) (h0 : x0 < 4294967296) (h1 : x1 < 4294967296) (h2 : x2 < 4294967296) (hn : n ≤ 100000000) (z1 : Int) (hz1 : z1 = x1)
    (hown : w.ownsRow base 5 1 (.slice a n c) n (bytesV xs)) (hb : base ≤ w.heap.size) :
    Calls Try.prog 35 #[.slice a n c, .slice (some ⟨w.heap.size, 0, none⟩) 3 3] (w.alloc (.cells #[.int .u32 x0, .int .u32 z1, .int .u32 x2] 70)).drew fun e w' => ∃ a c, e = .returned (.slice a (n + 12) c) ∧ w'.ownsRow base 5 1 (.slice a (n + 12) c) (n + 12) (bytesV (xs ++ [x0, x1, x2].flatMap be4)) ∧ n + 12 ≤ c ∧ c ≤ maxLen ∧ (a = none → c = 0) ∧ Below base w w' ∧ Kept w w' := by
  subst hz1
  have hB : Below w.heap.size w (w.alloc (.cells #[.int .u32 (x0 : Nat), .int .u32 (x1 : Nat), .int .u32 (x2 : Nat)] 70)).drew := bdrew1 (balloc (brefl w) _)
  refine (put32_any base a n c xs w.heap.size 3 [x0, x1, x2] _ (owns_below hown hB (Nat.le_refl _)) (by simp; omega) (by show (w.alloc _).heap[w.heap.size]? = _; rw [heap_push, if_pos rfl]; rfl) (by simp; omega) (by simp) (by omega) (by omega)).mono ?_
  rintro e w' ⟨a, c, rfl, h1, h2, h3, h4, h5, h6⟩
  exact ⟨a, c, rfl, h1, h2, h3, h4, (hB.mono hb).trans h5, (Kept.below hB).trans h6⟩

set_option maxRecDepth 100000 in
set_option maxHeartbeats 1600000 in
theorem make_any (a : Option Addr) (n c : Nat) (ps : List PartV) (w : World) (h : Has w a (encAll ps)) (hl : ps.length = n) (hn : n ≤ c) (hc : c ≤ maxLen) (hA : a = none → n = 0) (hn2 : n ≤ 1000) (hok : ∀ p ∈ ps, p.ok w) :
    Calls Try.prog 19 #[.slice a n c] w fun e w' => ∃ rs : List PartV, rs.Perm ps ∧ (∀ (i j : Nat) (p q : PartV), i < j → rs[i]? = some p → rs[j]? = some q → bl' q.tag.data.toList p.tag.data.toList = false) ∧
      ((fine rs ∧ ∃ a' c', e = .returned (.slice a' (font rs).length c') ∧ w'.ownsRow w.heap.size 5 1 (.slice a' (font rs).length c') (font rs).length (bytesV (font rs)) ∧ (font rs).length ≤ c' ∧ c' ≤ maxLen ∧ (a' = none → c' = 0)) ∨ (¬ fine rs ∧ e = .returned (.slice none 0 0))) ∧ Below w.heap.size w w' := by
  have HH := Lib.hid h
  have HL := Lib.hid hl
  have HK := Lib.hid hok
  have H0 := Lib.hid hA
  clear h hl hok hA
  go_enter Try.func19, Try.ntmps19
  go_wp2_with (go_at_call 29; refine (pclone_any _ _ _ ps _ HH.out HL.out (by omega) H0.out).mono ?_; rintro e w1 ⟨a1, c1, rfl, hown, k1, k2, k3, hb1⟩; have HO := Lib.hid hown; have H3 := Lib.hid k3; clear hown k3)
  have hS : Calls Try.prog 30 #[.slice a1 n c1, .func (.func 31) #[] #[]] w1 fun e w' => e = .returned (.tuple #[]) ∧ ∃ rs : List PartV, rs.Perm ps ∧ (∀ (i j : Nat) (p q : PartV), i < j → rs[i]? = some p → rs[j]? = some q → bl' q.tag.data.toList p.tag.data.toList = false) ∧ Has w' a1 (encAll rs) ∧ Below w.heap.size w1 w' := by
    cases a1 with
    | none =>
      have hn0 : n = 0 := by
        rcases HO.out.2 with ⟨_, h⟩ | ⟨g, cap, cur, hv, _⟩
        · exact h
        · cases hv
      subst hn0
      have hps : ps = [] := List.eq_nil_of_length_eq_zero HL.out
      refine (sort_none c1 w1).mono ?_
      rintro e w' ⟨rfl, rfl⟩
      exact ⟨rfl, [], by rw [hps], fun i j p q _ h => by simp at h, Has.nil _ _, Below.refl _ _⟩
    | some p =>
      obtain ⟨g, rfl, hg, hg1, hfr⟩ := own_some HO.out
      have hS := sort_any g 0 c1 ps w1 (own_has HO.out) (by rw [HL.out]; exact hfr) hg1 (by rw [HL.out]; omega)
      rw [HL.out] at hS
      refine hS.mono ?_
      rintro e w' ⟨he, rs, h1, h2, h3, h4⟩
      exact ⟨he, rs, h1, h2, h3, h4 _ hg⟩
  have HS := Lib.hid hS
  clear hS
  go_wp2_with (go_at_call 30; refine HS.out.mono ?_; rintro e w2 ⟨rfl, rs, hp, hs, hh, hbb⟩; have HP := Lib.hid hp; have HS2 := Lib.hid hs; have HR := Lib.hid hh; have HB2 := Lib.hid hbb; clear hp hs hh hbb)
  refine (canBe_any _ _ _ rs _ HR.out (by rw [HP.out.length_eq, HL.out]) (by omega) k2).mono ?_
  rintro e w3 ⟨(⟨rfl, hf⟩ | ⟨rfl, hf⟩), hb3⟩
  · have HF := Lib.hid hf
    have HB3 := Lib.hid hb3
    have HR3 := Lib.hid (HR.out.below hb3)
    have HBW := Lib.hid ((hb1.trans (HB2.out)).trans (hb3.mono (by have := (HB2.out).size; have := hb1.size; omega)))
    clear hf hb3
    go_wp2_with (go_at_call 34; refine (header_any n w3 (by omega)).mono ?_; rintro e w4 ⟨a4, c4, rfl, hown4, k41, k42, k43, hb4⟩; have HO4 := Lib.hid hown4; have H43 := Lib.hid k43; have HB4 := Lib.hid hb4; clear hown4 k43 hb4)
    have hls : rs.length = n := by rw [HP.out.length_eq, HL.out]
    have HLS := Lib.hid hls
    clear hls
    go_loopw [4, 5, 26] (MakeRel1 w3 rs n) (fun _ _ i _ => n - (intOf i).toNat)
    case atStart => exact ⟨0, a4, c4, Nat.zero_le _, rfl, by simp [tot], rfl, by simpa [rowsOf] using HO4.out, k41, k42, H43.out, HB4.out⟩
    case round =>
      obtain ⟨k, a5, c5, hk, rfl, rfl, rfl, hox, k51, k52, k53, hbr⟩ := hrel
      have HX := Lib.hid hox
      have HA5 := Lib.hid k53
      have hzr := hbr.size
      have HBR := Lib.hid hbr
      clear hox k53
      by_cases hlt : k < n
      · obtain ⟨p, hp⟩ : ∃ p, rs[k]? = some p := ⟨_, List.getElem?_eq_getElem (by rw [HLS.out]; exact hlt)⟩
        obtain ⟨g, o, rfl, hg', x0, x1⟩ := part_at HR3.out hp
        have y0 := (hbr.cell (p := ⟨g, o + k * 2, none⟩) hg').trans x0
        have y1 := (hbr.cell (p := ⟨g, o + k * 2 + 1, none⟩) hg').trans x1
        have hT4 : p.tag.size = 4 := (HF.out.1 k (by rw [HLS.out]; exact hlt) p hp).1
        have HPK := Lib.hid (HK.out p (HP.out.mem_iff.1 (List.mem_of_getElem? hp)))
        have hsm := HPK.out.small
        have HTK := Lib.hid (take_snoc hp)
        clear hbr x0 x1
        have HTT := Lib.hid (show tot (rs.take (k + 1)) = tot (rs.take k) + (p.n + lackN p.n) by rw [HTK.out, tot_append])
        have HRR := Lib.hid (show rowsOf (12 + 16 * n) (rs.take (k + 1)) = rowsOf (12 + 16 * n) (rs.take k) ++ rowOf p (12 + 16 * n + tot (rs.take k)) by rw [HTK.out, rowsOf_append])
        have hT : tot (rs.take k) ≤ 100003000 := by
          have h1 := tot_le w (rs.take k) (fun q hq => HK.out q (HP.out.mem_iff.1 (List.mem_of_mem_take hq)))
          have h2 : (rs.take k).length ≤ 1000 := by rw [List.length_take]; omega
          omega
        have hL3 : lackN p.n ≤ 3 := by unfold lackN; omega
        clear HTK
        generalize tot (rs.take k) = T at *
        generalize rowsOf (12 + 16 * n) (rs.take k) = R at *
        go_wp2_with (at_builtin; refine wpAppS rfl _ _ 22 9 rfl w3.heap.size 5 Try.underlying22 Try.underlying9 u8_info _ (12 + 16 * k) (hdr n ++ R) rfl (owns_below HX.out (balloc (brefl wr) _) (Nat.le_refl _)) p.tag rfl (by omega) (by simp; omega) ?_; intro a6 c6 w6 hown6 k61 k62 k63 hb6 hg6; have HO6 := Lib.hid hown6; have HA6 := Lib.hid k63; have HB6 := Lib.hid hb6; have hkp6 := Kept.grown (owns_below HX.out (balloc (brefl wr) _) (Nat.le_refl _)) hg6; clear hown6 k63 hb6 hg6)
        have hq6 := (hkp6.2 wr.heap.size #[.string p.tag, .slice p.a p.n p.c] 49 (0, 0) (by rw [heap_push, if_pos rfl]) (by decide)).trans (by rw [heap_push, if_pos rfl])
        have hz6 := hkp6.1
        have HKP6 := Lib.hid hkp6
        clear hkp6
        have hW36 : Below w3.heap.size w3 w6 := (HBR.out.trans ((balloc (brefl wr) _).mono hzr)).trans HB6.out
        have HW6 := Lib.hid (HBW.out.trans (hW36.mono HBW.out.size))
        have h36 : w3.heap.size ≤ w6.heap.size := hW36.size
        have HW36 := Lib.hid hW36
        have hck := cks_lt p.bs p.n
        clear hW36
        refine wp_region_tree (.step 0 (.step 1 (.step 2 (.step 4 (.step 5 (.step 6 (.step 7 (.step 8 (.step 9 (.step 3 (.step 10 (.step 11 (.step 12 .nil))))))))))))) (by kernel_rfl) (by kernel_rfl) (by kernel_rfl) (by kernel_rfl) (by intro _ _ d_ _ _ h_; cases d_ <;> first | exact h_ | (dsimp +zetaDelta only at h_ ⊢; exact h_)) (fun w' => ∃ p : KeptW w6, w' = p.val) (kept_start _) ?_
        have hK0_ := fun (p : KeptW w6) (o : Nat) => p.is.cell hq6 (by decide) o
        (refine tree_quiet (by simp only [List.getElem?_toArray, List.getElem?_cons_succ, List.getElem?_cons_zero]; rfl) (by rfl) (by rfl) (fun K_ hK_ => ?_); go_big_quiet_op; refine hK_ _ ?_; clear hK_ K_)
        (refine tree_quiet (by simp only [List.getElem?_toArray, List.getElem?_cons_succ, List.getElem?_cons_zero]; rfl) (by rfl) (by rfl) (fun K_ hK_ => ?_); go_big_quiet_op; refine hK_ _ ?_; clear hK_ K_)
        (refine tree_quiet (by simp only [List.getElem?_toArray, List.getElem?_cons_succ, List.getElem?_cons_zero]; rfl) (by rfl) (by rfl) (fun K_ hK_ => ?_); go_big_quiet_op; refine hK_ _ ?_; clear hK_ K_)
        (refine tree_quiet (by simp only [List.getElem?_toArray, List.getElem?_cons_succ, List.getElem?_cons_zero]; rfl) (by rfl) (by rfl) (fun K_ hK_ => ?_); go_big_quiet_op; refine hK_ _ ?_; clear hK_ K_)
        (refine tree_quiet (by simp only [List.getElem?_toArray, List.getElem?_cons_succ, List.getElem?_cons_zero]; rfl) (by rfl) (by rfl) (fun K_ hK_ => ?_); go_big_quiet_op; refine hK_ _ ?_; clear hK_ K_)
        (refine tree_quiet (by simp only [List.getElem?_toArray, List.getElem?_cons_succ, List.getElem?_cons_zero]; rfl) (by rfl) (by rfl) (fun K_ hK_ => ?_); go_big_quiet_op; refine hK_ _ ?_; clear hK_ K_)
        (refine tree_quiet (by simp only [List.getElem?_toArray, List.getElem?_cons_succ, List.getElem?_cons_zero]; rfl) (by rfl) (by rfl) (fun K_ hK_ => ?_); go_big_quiet_op; refine hK_ _ ?_; clear hK_ K_)
        (refine tree_quiet (by simp only [List.getElem?_toArray, List.getElem?_cons_succ, List.getElem?_cons_zero]; rfl) (by rfl) (by rfl) (fun K_ hK_ => ?_); go_big_quiet_op; refine hK_ _ ?_; clear hK_ K_)
        (refine tree_quiet (by simp only [List.getElem?_toArray, List.getElem?_cons_succ, List.getElem?_cons_zero]; rfl) (by rfl) (by rfl) (fun K_ hK_ => ?_); go_big_quiet_op; refine hK_ _ ?_; clear hK_ K_)
        (refine tree_run (by simp only [List.getElem?_toArray, List.getElem?_cons_succ, List.getElem?_cons_zero]; rfl) (by rfl) (by rfl) (fun K_ hK_ => ?_); have HK_ := Lib.hid hK_; clear hK_; go_wp2_with (first
          | (go_at_call 36; refine (checksum_any _ _ _ p.bs _ ((HPK.out.has.below HW6.out).below (bdrew1 (brefl w6))) HPK.out.len HPK.out.le HPK.out.max).mono ?_; rintro e w_ ⟨rfl, rfl⟩)
          | (go_at_call 35; refine (put32_three w6 w3.heap.size (12 + 16 * k + 4) a6 c6 _ (cks p.bs p.n) (12 + 16 * n + T) p.n hck (by omega) (by omega) (by omega) _ (by omega) (by have := HO6.out; rw [hT4] at this; exact this) h36).mono ?_; rintro e w7 ⟨a7, c7, rfl, hown7, k71, k72, k73, hb7, hkp7⟩; have HO7 := Lib.hid hown7; have HA7 := Lib.hid k73; have HB7 := Lib.hid hb7; clear hown7 k73 hb7)); refine HK_.out _ _ (kept_of (by repeat (first | exact Kept.refl _ | assumption | refine Kept.trans ?_ (Kept.below (bdrew1 (brefl _))) | refine Kept.trans ?_ (Kept.below (balloc (brefl _) _)) | refine Kept.trans ?_ (by assumption)))) ?_; clear HK_)
        (refine tree_run (by simp only [List.getElem?_toArray, List.getElem?_cons_succ, List.getElem?_cons_zero]; rfl) (by rfl) (by rfl) (fun K_ hK_ => ?_); have HK_ := Lib.hid hK_; clear hK_; go_wp2_with (first
          | (go_at_call 36; refine (checksum_any _ _ _ p.bs _ ((HPK.out.has.below HW6.out).below (bdrew1 (brefl w6))) HPK.out.len HPK.out.le HPK.out.max).mono ?_; rintro e w_ ⟨rfl, rfl⟩)
          | (go_at_call 35; refine (put32_three w6 w3.heap.size (12 + 16 * k + 4) a6 c6 _ (cks p.bs p.n) (12 + 16 * n + T) p.n hck (by omega) (by omega) (by omega) _ (by omega) (by have := HO6.out; rw [hT4] at this; exact this) h36).mono ?_; rintro e w7 ⟨a7, c7, rfl, hown7, k71, k72, k73, hb7, hkp7⟩; have HO7 := Lib.hid hown7; have HA7 := Lib.hid k73; have HB7 := Lib.hid hb7; clear hown7 k73 hb7)); refine HK_.out _ _ (kept_of (by repeat (first | exact Kept.refl _ | assumption | refine Kept.trans ?_ (Kept.below (bdrew1 (brefl _))) | refine Kept.trans ?_ (Kept.below (balloc (brefl _) _)) | refine Kept.trans ?_ (by assumption)))) ?_; clear HK_)
        (refine tree_run (by simp only [List.getElem?_toArray, List.getElem?_cons_succ, List.getElem?_cons_zero]; rfl) (by rfl) (by rfl) (fun K_ hK_ => ?_); have HK_ := Lib.hid hK_; clear hK_; go_wp2_with (first
          | (go_at_call 36; refine (checksum_any _ _ _ p.bs _ ((HPK.out.has.below HW6.out).below (bdrew1 (brefl w6))) HPK.out.len HPK.out.le HPK.out.max).mono ?_; rintro e w_ ⟨rfl, rfl⟩)
          | (go_at_call 35; refine (put32_three w6 w3.heap.size (12 + 16 * k + 4) a6 c6 _ (cks p.bs p.n) (12 + 16 * n + T) p.n hck (by omega) (by omega) (by omega) _ (by omega) (by have := HO6.out; rw [hT4] at this; exact this) h36).mono ?_; rintro e w7 ⟨a7, c7, rfl, hown7, k71, k72, k73, hb7, hkp7⟩; have HO7 := Lib.hid hown7; have HA7 := Lib.hid k73; have HB7 := Lib.hid hb7; clear hown7 k73 hb7)); refine HK_.out _ _ (kept_of (by repeat (first | exact Kept.refl _ | assumption | refine Kept.trans ?_ (Kept.below (bdrew1 (brefl _))) | refine Kept.trans ?_ (Kept.below (balloc (brefl _) _)) | refine Kept.trans ?_ (by assumption)))) ?_; clear HK_)
        (refine tree_quiet (by simp only [List.getElem?_toArray, List.getElem?_cons_succ, List.getElem?_cons_zero]; rfl) (by rfl) (by rfl) (fun K_ hK_ => ?_); go_big_quiet_op; refine hK_ _ ?_; clear hK_ K_)
        refine tree_nil ?_
        clear hK0_
        have hq7 := (hkp7.2 wr.heap.size _ _ _ hq6 (by decide)).trans hq6
        have HK7 := Lib.hid hkp7
        clear hkp7
        go_wp2_with fail
        refine wp_region_tree (.step 0 (.step 1 (.step 2 (.step 3 (.step 4 (.step 5 (.step 6 (.step 7 (.step 8 (.step 9 .nil)))))))))) (by kernel_rfl) (by kernel_rfl) (by kernel_rfl) (by kernel_rfl) (by intro _ _ d_ _ _ h_; cases d_ <;> first | exact h_ | (dsimp +zetaDelta only at h_ ⊢; exact h_)) (fun w' => ∃ p : KeptW w7, w' = p.val) (kept_start _) ?_
        have hK0_ := fun (p : KeptW w7) (o : Nat) => p.is.cell hq7 (by decide) o
        (refine tree_quiet (by simp only [List.getElem?_toArray, List.getElem?_cons_succ, List.getElem?_cons_zero]; rfl) (by rfl) (by rfl) (fun K_ hK_ => ?_); go_big_quiet_op; refine hK_ _ ?_; clear hK_ K_)
        (refine tree_quiet (by simp only [List.getElem?_toArray, List.getElem?_cons_succ, List.getElem?_cons_zero]; rfl) (by rfl) (by rfl) (fun K_ hK_ => ?_); go_big_quiet_op; refine hK_ _ ?_; clear hK_ K_)
        (refine tree_quiet (by simp only [List.getElem?_toArray, List.getElem?_cons_succ, List.getElem?_cons_zero]; rfl) (by rfl) (by rfl) (fun K_ hK_ => ?_); go_big_quiet_op; refine hK_ _ ?_; clear hK_ K_)
        (refine tree_quiet (by simp only [List.getElem?_toArray, List.getElem?_cons_succ, List.getElem?_cons_zero]; rfl) (by rfl) (by rfl) (fun K_ hK_ => ?_); go_big_quiet_op; refine hK_ _ ?_; clear hK_ K_)
        (refine tree_quiet (by simp only [List.getElem?_toArray, List.getElem?_cons_succ, List.getElem?_cons_zero]; rfl) (by rfl) (by rfl) (fun K_ hK_ => ?_); go_big_quiet_op; refine hK_ _ ?_; clear hK_ K_)
        (refine tree_quiet (by simp only [List.getElem?_toArray, List.getElem?_cons_succ, List.getElem?_cons_zero]; rfl) (by rfl) (by rfl) (fun K_ hK_ => ?_); go_big_quiet_op; refine hK_ _ ?_; clear hK_ K_)
        (refine tree_run (by simp only [List.getElem?_toArray, List.getElem?_cons_succ, List.getElem?_cons_zero]; rfl) (by rfl) (by rfl) (fun K_ hK_ => ?_); have HK_ := Lib.hid hK_; clear hK_; go_wp2_with ((go_at_call 37; refine (lack_any _ _ _ _ (by omega)).mono ?_; rintro e w_ ⟨rfl, rfl⟩)); refine HK_.out _ _ (kept_of (by repeat (first | exact Kept.refl _ | assumption | refine Kept.trans ?_ (Kept.below (bdrew1 (brefl _))) | refine Kept.trans ?_ (Kept.below (balloc (brefl _) _)) | refine Kept.trans ?_ (by assumption)))) ?_; clear HK_)
        (refine tree_quiet (by simp only [List.getElem?_toArray, List.getElem?_cons_succ, List.getElem?_cons_zero]; rfl) (by rfl) (by rfl) (fun K_ hK_ => ?_); go_big_quiet_op; refine hK_ _ ?_; clear hK_ K_)
        (refine tree_quiet (by simp only [List.getElem?_toArray, List.getElem?_cons_succ, List.getElem?_cons_zero]; rfl) (by rfl) (by rfl) (fun K_ hK_ => ?_); go_big_quiet_op; refine hK_ _ ?_; clear hK_ K_)
        (refine tree_quiet (by simp only [List.getElem?_toArray, List.getElem?_cons_succ, List.getElem?_cons_zero]; rfl) (by rfl) (by rfl) (fun K_ hK_ => ?_); go_big_quiet_op; refine hK_ _ ?_; clear hK_ K_)
        refine tree_nil ?_
        clear hK0_
        go_wp2_with fail
        go_roundw
        case rel =>
          refine ⟨k + 1, a7, c7, by omega, by go_num, ?_, ?_, ?_, by omega, k72, HA7.out, ?_⟩
          · rw [HTT.out]; congr 1 <;> omega
          · congr 1 <;> omega
          · have h7 := HO7.out
            rw [HRR.out, rowOf]
            rw [show 12 + 16 * (k + 1) = 12 + 16 * k + 4 + 12 by omega]
            simp only [List.append_assoc] at h7 ⊢
            exact owns_below h7 (bdrew1 (brefl w7)) (Nat.le_refl _)
          · exact bdrew1' ((HW36.out.trans HB7.out))
        case measure => simp [intOf]; omega
      · obtain rfl : n = k := by omega
        have hR : rs.take n = rs := List.take_of_length_le (by rw [HLS.out]; exact Nat.le_refl _)
        rw [hR] at HX ⊢
        clear hR hbr
        obtain ⟨AT, hAT⟩ : ∃ z : Int, z = ((12 + 16 * n + tot rs : Nat) : Int) := ⟨_, rfl⟩
        rw [← hAT]
        clear hAT
        go_wp2_with fail
        go_loopw [4, 58] (MakeRel2 w3 rs n) (fun _ i _ => n - (intOf i).toNat)
        case atStart => exact ⟨0, a5, c5, Nat.zero_le _, rfl, by simp [tot], by simpa [tot] using HX.out, by simpa [tot] using k51, k52, HA5.out, HBR.out⟩
        case round =>
          obtain ⟨k, a8, c8, hk, rfl, rfl, hox, k81, k82, k83, hbr⟩ := hrel
          have HX2 := Lib.hid hox
          have HA8 := Lib.hid k83
          have hzr := hbr.size
          have HBR2 := Lib.hid hbr
          clear hox k83 HX HBR HA5
          by_cases hlt : k < n
          · obtain ⟨p, hp⟩ : ∃ p, rs[k]? = some p := ⟨_, List.getElem?_eq_getElem (by rw [HLS.out]; exact hlt)⟩
            obtain ⟨g, o, rfl, hg', x0, x1⟩ := part_at HR3.out hp
            have y0 := (hbr.cell (p := ⟨g, o + k * 2, none⟩) hg').trans x0
            have y1 := (hbr.cell (p := ⟨g, o + k * 2 + 1, none⟩) hg').trans x1
            have HPK := Lib.hid (HK.out p (HP.out.mem_iff.1 (List.mem_of_getElem? hp)))
            have hsm := HPK.out.small
            have HTT := Lib.hid (show tot (rs.take (k + 1)) = tot (rs.take k) + (p.n + lackN p.n) by rw [take_snoc hp, tot_append])
            have HDD := Lib.hid (show (rs.take (k + 1)).flatMap dataOf = (rs.take k).flatMap dataOf ++ dataOf p by rw [take_snoc hp, List.flatMap_append]; simp)
            have hT : tot (rs.take k) ≤ 100003000 := by
              have h1 := tot_le w (rs.take k) (fun q hq => HK.out q (HP.out.mem_iff.1 (List.mem_of_mem_take hq)))
              have h2 : (rs.take k).length ≤ 1000 := by rw [List.length_take]; omega
              omega
            have hL3 : lackN p.n ≤ 3 := by unfold lackN; omega
            have HWR := Lib.hid (HBW.out.trans (hbr.mono HBW.out.size))
            clear hbr x0 x1
            generalize tot (rs.take k) = T at *
            generalize (rs.take k).flatMap dataOf = D at *
            go_wp2_with (first
              | (at_builtin; refine wpApp rfl _ _ 22 rfl w3.heap.size 5 (.int .u8 0) 1 1 Try.underlying22 u8_info rfl (by decide) _ (12 + 16 * n + T) (bytesV (hdr n ++ rowsOf (12 + 16 * n) rs ++ D)) rfl (owns_below HX2.out (balloc (brefl wr) _) (Nat.le_refl _)) p.a p.n p.c (bytesV p.bs) rfl (by rw [bytesV_length, HPK.out.len]; omega) ((HPK.out.has.below HWR.out).below (balloc (brefl wr) _)) HPK.out.nil (bytesV_one _) (by unfold maxLen; omega) (by omega) (by simp; omega) ?_; intro a6 c6 w6 hown6 k61 k62 k63 hb6 hg6; have HO6 := Lib.hid hown6; have HA6 := Lib.hid k63; have HB6 := Lib.hid hb6; have hkp6 := Kept.grown (owns_below HX2.out (balloc (brefl wr) _) (Nat.le_refl _)) hg6; have hq6 := (hkp6.2 wr.heap.size #[.string p.tag, .slice p.a p.n p.c] 49 (0, 0) (by rw [heap_push, if_pos rfl]) (by decide)).trans (by rw [heap_push, if_pos rfl]); have hcl := fun o => (Kept.refl w6).cell hq6 (by decide) o; have h36 := hb6.size; clear hown6 k63 hb6 hg6 hkp6)
              | (go_at_call 37; refine (lack_any _ _ _ _ (by omega)).mono ?_; rintro e w_ ⟨rfl, rfl⟩)
              | (at_builtin; refine wpAppZ rfl _ _ 22 3 9 rfl w3.heap.size 5 Try.underlying22 Try.underlying3 Try.underlying9 u8_info _ (12 + 16 * n + T + p.n) (hdr n ++ rowsOf (12 + 16 * n) rs ++ D ++ p.bs) rfl (by have := HO6.out; rw [← bytesV_append] at this; exact this) (lackN p.n) rfl (by omega) (by simp at h36; omega) ?_; intro a9 c9 w9 hown9 k91 k92 k93 hb9; have HO9 := Lib.hid hown9; have HA9 := Lib.hid k93; have HB9 := Lib.hid hb9; clear hown9 k93 hb9))
            go_roundw
            case rel =>
              refine ⟨k + 1, a9, c9, by omega, by go_num, ?_, ?_, by rw [HTT.out]; omega, k92, HA9.out, ?_⟩
              · rw [HTT.out]; congr 1 <;> omega
              · have h9 := HO9.out
                rw [HTT.out, HDD.out, dataOf]
                rw [show 12 + 16 * n + (T + (p.n + lackN p.n)) = 12 + 16 * n + T + p.n + lackN p.n by omega]
                simp only [List.append_assoc] at h9 ⊢
                exact h9
              · exact ((HBR2.out.trans ((balloc (brefl wr) _).mono hzr)).trans HB6.out).trans HB9.out
            case measure => simp [intOf]; omega
          · obtain rfl : n = k := by omega
            have hR : rs.take n = rs := List.take_of_length_le (by rw [HLS.out]; exact Nat.le_refl _)
            rw [hR] at HX2 k81 ⊢
            have hfl : (font rs).length = 12 + 16 * n + tot rs := by
              have := HX2.out.1
              rw [bytesV_length, Nat.mul_one] at this
              rw [← this, font, HLS.out]
            have HFL := Lib.hid hfl
            clear hR hfl hbr
            go_wp2
            go_ret
            refine ⟨rs, HP.out, HS2.out, .inl ⟨HF.out, a8, c8, ?_, ?_, by rw [HFL.out]; exact k81, k82, HA8.out⟩, HBW.out.trans (HBR2.out.mono HBW.out.size)⟩
            · rw [HFL.out]; rfl
            · rw [HFL.out, font, HLS.out]; exact owns_mono HX2.out HBW.out.size
  · have HF := Lib.hid hf
    clear hf
    go_wp2
    go_ret
    exact ⟨rs, HP.out, HS2.out, .inr ⟨HF.out, rfl⟩, (hb1.trans (HB2.out)).trans (hb3.mono (by have := (HB2.out).size; have := hb1.size; omega))⟩
end Go.Proofs.Ythacabmnnpibkaa
