/- Joined from: MSpeak MPlan MRefG MRefT MRefC. -/
import Derived.Test.YtaladlaffglkeaaJ11
import Derived.Test.YtaladlaffglkeaaJ01
import Derived.Test.YtaladlaffglkeaaJ02
import Derived.Lib.AppendZeros
import Derived.ChangeSame
import Derived.Test.YtaladlaffglkeaaJ08
section

/- The contract of the reference's Entry of layer 7. Conditions: as many bytes as the slice says, no more than 4000; the entry is there. The contract of the reference's Step of layer 7. Conditions: as many bytes as the slice says, no more than 4000; the entries are there. The contract of same: a machine in memory against the reference's. Conditions: both tell the same numbers. The contract of Write of layer 7: a plan's bytes. Conditions: a plan in memory; no more than a thousand classes, rows and entries. swashlaw07.speaks returns true: two states, one entry. No condition. -/
namespace Go.Proofs.Ytaladlaffglkeaa
open Go.RowKit Go.Lib

/-- A plan to be written. -/
structure PlanL where
  cls : List UInt8
  rows : List (List UInt8)
  ents : List (Int × Int × Int × Int)
  wide : UInt8
def PlanL.n (p : PlanL) : Nat := 4 + p.wide.toNat % 8
def m16 (x : Int) : Nat := (x % 65536).toNat
def clsB (l : List UInt8) : List UInt8 := l.flatMap fun c => beN 2 c.toNat
def ofB (l : List UInt8) : List UInt8 := beN 2 8 ++ beN 2 0 ++ beN 2 l.length
def rowPB (r : List UInt8) (n : Nat) : List UInt8 := (List.range n).flatMap fun i => beN 2 (r.getD i 0).toNat
def rowsPB (l : List (List UInt8)) (n : Nat) : List UInt8 := l.flatMap fun r => rowPB r n
def entPB (k : Nat) (e : Int × Int × Int × Int) : List UInt8 := beN 2 (m16 e.1) ++ beN 2 (m16 e.2.1) ++ (if 0 < k then beN 2 (m16 e.2.2.1) else []) ++ (if 1 < k then beN 2 (m16 e.2.2.2) else [])
def entsPB (k : Nat) (l : List (Int × Int × Int × Int)) : List UInt8 := l.flatMap (entPB k)
def entC4 (e : Int × Int × Int × Int) : List Value := [.int .i64 e.1, .int .i64 e.2.1, .int .i64 e.2.2.1, .int .i64 e.2.2.2]
def planB (p : PlanL) (k room : Nat) : List UInt8 :=
  beN 4 p.n ++ beN 4 (16 + room) ++ beN 4 (16 + room + (6 + 2 * p.cls.length)) ++ beN 4 (16 + room + (6 + 2 * p.cls.length) + 2 * (p.rows.length * p.n)) ++ List.replicate room 0 ++ (ofB p.cls ++ clsB p.cls) ++ rowsPB p.rows p.n ++ entsPB k p.ents
/-- A plan's three rows in memory. -/
structure PlanHas (w : World) (p : PlanL) (aC : Option Addr) (aR : Option Addr) (rv : List Value) (aE : Option Addr) : Prop where
  cls : Has w aC (bytesV p.cls)
  rows : Has w aR rv
  rlen : rv.length = p.rows.length
  row : ∀ (i : Nat) (r : List UInt8), p.rows[i]? = some r → ∃ (ai : Option Addr) (ci : Nat), rv[i]? = some (Value.slice ai r.length ci) ∧ Has w ai (bytesV r)
  ents : Has w aE (p.ents.flatMap entC4)
theorem PlanHas.below {w w' : World} {p : PlanL} {aC aR : Option Addr} {rv : List Value} {aE : Option Addr} (h : PlanHas w p aC aR rv aE) (hb : Below w.heap.size w w') : PlanHas w' p aC aR rv aE :=
  ⟨h.cls.below hb, h.rows.below hb, h.rlen, fun i r hr => by obtain ⟨ai, ci, h1, h2⟩ := h.row i r hr; exact ⟨ai, ci, h1, h2.below hb⟩, h.ents.below hb⟩
theorem m16_lt (x : Int) : m16 x ≤ 65535 := by unfold m16; omega
theorem i64_and16 (x : Int) (h0 : -9223372036854775808 ≤ x) (h1 : x ≤ 9223372036854775807) : bits .and .i64 x 65535 = (m16 x : Nat) := by
  have hb : IntKind.bits .i64 = 64 := rfl
  have e : ((BitVec.ofInt 64 x).toNat &&& (BitVec.ofInt 64 65535).toNat) = (x % 18446744073709551616).toNat % 65536 := by
    rw [BitVec.toNat_ofInt, BitVec.toNat_ofInt]
    exact Nat.and_two_pow_sub_one_eq_mod _ 16
  simp only [bits, BitVec.toNat_and]
  rw [show (BitVec.ofInt (IntKind.bits .i64) x).toNat &&& (BitVec.ofInt (IntKind.bits .i64) 65535).toNat = (x % 18446744073709551616).toNat % 65536 from e, IntKind.wrap_i64]
  unfold m16
  omega
/-- Put with its numbers as the text spells them. -/
theorem put_zz (base : Nat) (a : Option Addr) (n c v size m : Nat) (z y : Int) (hz : z = (v : Nat)) (hy : y = (size : Nat)) (hm : n + size = m) (xs : List UInt8) (w : World) (hown : w.ownsRow base 5 1 (.slice a n c) n (bytesV xs)) (hbase : base ≤ w.heap.size) (hv : v < 9223372036854775808) (hn : n ≤ 1000000000) (hs : size ≤ 8) :
    Calls Try.prog 70 #[.slice a n c, .int .i64 z, .int .i64 y] w fun e w' => ∃ a' c', e = .returned (.slice a' m c') ∧ w'.ownsRow base 5 1 (.slice a' m c') m (bytesV (xs ++ beN size v)) ∧ m ≤ c' ∧ c' ≤ maxLen ∧ (a' = none → c' = 0) ∧ Below base w w' ∧ Kept w w' := by
  subst hz hy hm
  refine (put_any base a n c v size xs w hown hbase hv hn hs).mono ?_
  rintro e w' ⟨a', c', h1, h2, h3, h4, h5, h6, h7⟩
  exact ⟨a', c', h1, h2, h3, h4, h5, h6, h7⟩
theorem clsB_snoc (l : List UInt8) (j : Nat) (h : j < l.length) : clsB (l.take (j + 1)) = clsB (l.take j) ++ beN 2 (l.getD j 0).toNat := by
  unfold clsB
  rw [List.take_add_one, List.flatMap_append, List.getElem?_eq_getElem h, List.getD_eq_getElem?_getD, List.getElem?_eq_getElem h]
  simp only [Option.toList, List.flatMap_cons, List.flatMap_nil, List.append_nil, Option.getD_some]
theorem clsB_length (l : List UInt8) : (clsB l).length = 2 * l.length := by
  induction l with
  | nil => rfl
  | cons c l ih => simp only [clsB, List.flatMap_cons, List.length_append, List.length_cons] at *; rw [ih, beN_length]; omega
def CRel (B : Nat) (w : World) (l : List UInt8) (of i : Value) (wr : World) : Prop :=
  ∃ (j : Nat) (a' : Option Addr) (c' : Nat), j ≤ l.length ∧ i = .int .i64 (j : Nat) ∧ of = .slice a' (6 + 2 * j) c' ∧ wr.ownsRow B 5 1 (.slice a' (6 + 2 * j) c') (6 + 2 * j) (bytesV (ofB l ++ clsB (l.take j))) ∧ 6 + 2 * j ≤ c' ∧ c' ≤ maxLen ∧ (a' = none → c' = 0) ∧ Below B w wr
theorem rowPB_succ (r : List UInt8) (q : Nat) : rowPB r (q + 1) = rowPB r q ++ beN 2 (r.getD q 0).toNat := by simp [rowPB, List.range_succ]
theorem rowPB_length (r : List UInt8) (q : Nat) : (rowPB r q).length = 2 * q := by
  induction q with
  | zero => rfl
  | succ q ih => rw [rowPB_succ, List.length_append, ih, beN_length]; omega
theorem rowsPB_snoc (l : List (List UInt8)) (n j : Nat) (r : List UInt8) (h : l[j]? = some r) : rowsPB (l.take (j + 1)) n = rowsPB (l.take j) n ++ rowPB r n := by
  unfold rowsPB
  rw [List.take_add_one, List.flatMap_append, h]
  simp only [Option.toList, List.flatMap_cons, List.flatMap_nil, List.append_nil]
theorem rowsPB_length (l : List (List UInt8)) (n : Nat) : (rowsPB l n).length = 2 * (l.length * n) := by
  induction l with
  | nil => simp [rowsPB]
  | cons r l ih => simp only [rowsPB, List.flatMap_cons, List.length_append, List.length_cons] at *; have e : (l.length + 1) * n = l.length * n + n := Nat.succ_mul _ _; rw [ih, rowPB_length]; omega
theorem entPB_length (k : Nat) (e : Int × Int × Int × Int) (hk : k ≤ 2) : (entPB k e).length = 4 + 2 * k := by
  unfold entPB
  have : k = 0 ∨ k = 1 ∨ k = 2 := by omega
  rcases this with rfl | rfl | rfl <;> simp [beN_length]
theorem entsPB_length (k : Nat) (l : List (Int × Int × Int × Int)) (hk : k ≤ 2) : (entsPB k l).length = l.length * (4 + 2 * k) := by
  induction l with
  | nil => simp [entsPB]
  | cons r l ih => simp only [entsPB, List.flatMap_cons, List.length_append, List.length_cons] at *; have e : (l.length + 1) * (4 + 2 * k) = l.length * (4 + 2 * k) + (4 + 2 * k) := Nat.succ_mul _ _; rw [ih, entPB_length k r hk]; omega
theorem entsPB_snoc (k : Nat) (l : List (Int × Int × Int × Int)) (j : Nat) (e : Int × Int × Int × Int) (h : l[j]? = some e) : entsPB k (l.take (j + 1)) = entsPB k (l.take j) ++ entPB k e := by
  unfold entsPB
  rw [List.take_add_one, List.flatMap_append, h]
  simp only [Option.toList, List.flatMap_cons, List.flatMap_nil, List.append_nil]
/-- A row of bytes of the call's own, as a slot. -/
def BRow (B : Nat) (xs : List UInt8) (v : Value) (wr : World) : Prop := ∃ (a' : Option Addr) (c' : Nat), v = .slice a' xs.length c' ∧ wr.ownsRow B 5 1 (.slice a' xs.length c') xs.length (bytesV xs) ∧ xs.length ≤ c' ∧ c' ≤ maxLen ∧ (a' = none → c' = 0)
theorem BRow.nil (B : Nat) (w : World) : BRow B [] (.slice none 0 0) w := ⟨none, 0, rfl, World.ownsRow_nil _ _ _ _, Nat.le_refl _, Nat.zero_le _, fun _ => rfl⟩
theorem BRow.below {B : Nat} {xs : List UInt8} {v : Value} {w w' : World} (h : BRow B xs v w) (hb : Below w.heap.size w w') : BRow B xs v w' := by
  obtain ⟨a', c', h1, h2, h3⟩ := h
  exact ⟨a', c', h1, owns_below h2 hb (Nat.le_refl _), h3⟩
theorem put_row (B v size : Nat) (z y : Int) (hz : z = (v : Nat)) (hy : y = (size : Nat)) (xs : List UInt8) (s : Value) (w : World) (h : BRow B xs s w) (hB : B ≤ w.heap.size) (hv : v < 9223372036854775808) (hn : xs.length ≤ 1000000000) (hs : size ≤ 8) :
    Calls Try.prog 70 #[s, .int .i64 z, .int .i64 y] w fun e w' => ∃ s', e = .returned s' ∧ BRow B (xs ++ beN size v) s' w' ∧ Below B w w' ∧ Kept w w' := by
  obtain ⟨a, c, rfl, h2, h3, h4, h5⟩ := h
  refine (put_zz B a xs.length c v size (xs ++ beN size v).length z y hz hy (by rw [List.length_append, beN_length]) xs w h2 hB hv hn hs).mono ?_
  rintro e w' ⟨a', c', rfl, g2, g3, g4, g5, g6, g7⟩
  exact ⟨_, rfl, ⟨a', c', rfl, g2, g3, g4, g5⟩, g6, g7⟩
def RRel (B : Nat) (W : World) (l : List (List UInt8)) (n : Nat) (rs i : Value) (wr : World) : Prop :=
  ∃ j : Nat, j ≤ l.length ∧ i = .int .i64 (j : Nat) ∧ BRow B (rowsPB (l.take j) n) rs wr ∧ Below B W wr
def ERel (B : Nat) (W : World) (l : List (Int × Int × Int × Int)) (k : Nat) (rs i : Value) (wr : World) : Prop :=
  ∃ j : Nat, j ≤ l.length ∧ i = .int .i64 (j : Nat) ∧ BRow B (entsPB k (l.take j)) rs wr ∧ Below B W wr
theorem kept_ofA {W W' : World} (h : Kept W W' := by repeat (first | exact Kept.refl _ | assumption | refine Kept.trans ?_ (Kept.below (bdrew1 (brefl _))) | refine Kept.trans ?_ (Kept.below (balloc (brefl _) _)) | refine Kept.trans ?_ (by assumption))) : ∃ p : KeptW W, W' = p.val := kept_of h
theorem strCells_bytesM (s : ByteArray) : Lib.strCells s = bytesV s.data.toList := rfl
/-- 'append' of so many noughts onto a slice of the call's own. -/
theorem wpAppZM {P : Program} {w : World} {ops : Array Oper} {rest : List Oper} {o : Oper} {a : Act} {Q : Exit → Act → World → Prop} (hgd : o.guard = none) (s x : Operand) (t tn u : TypeId)
    (ho : o.op = .call { callee := .builtin .append, args := #[s, x], argTypes := #[t, tn] })
    (base : Nat) (e : TypeId) (ht : P.underlying t = some (.slice e)) (htn : P.underlying tn = some (.int .i64)) (hu : P.underlying u = some .string) (hi : (P.info? e).map (fun i => (i.zero, i.size, i.bytes)) = some (some (.int .u8 0), 1, 1))
    (v : Value) (n : Nat) (xs : List UInt8) (hs : a.eval s = v) (hown : w.ownsRow base e 1 v n (bytesV xs)) (k : Nat) (hx : a.eval x = .int .i64 k) (hb : n + k ≤ 140737488355328) (hbase : base ≤ w.heap.size)
    (h' : ∀ a' c' w', w'.ownsRow base e 1 (.slice a' (n + k) c') (n + k) (bytesV (xs ++ List.replicate k 0)) → n + k ≤ c' → c' ≤ maxLen → (a' = none → c' = 0) → Below base w w' → wpList P ops Q rest (a.put o.dst (.slice a' (n + k) c')) w') : wpList P ops Q (o :: rest) a w := by
  obtain ⟨i, hi, hz, hz1, hz2⟩ := info_parts hi
  obtain ⟨a0, c0, rfl, _, _, _⟩ := owns_slice hown
  have hsz : (str (List.replicate k 0)).size = k := by simp [str, ByteArray.size]
  obtain ⟨v', w', hr, g1, g2, _⟩ := Lib.run_append_own_string (P := P) w base t u o.type e i ht hu hi hz hz1 hz2 _ n (bytesV xs) hown (str (List.replicate k 0)) (by rw [hsz]; unfold maxLen; omega) (by rw [hsz]; exact hb) hbase
  rw [← run_zeros w t tn u o.type e i ht htn hu hi hz hz1 hz2 a0 n c0 k hb] at hr
  rw [hsz] at g1
  have e1 : bytesV xs ++ Lib.strCells (str (List.replicate k 0)) = bytesV (xs ++ List.replicate k 0) := by
    rw [bytesV_append, strCells_bytesM]; simp [str]
  rw [e1] at g1
  obtain ⟨a', c', rfl, k1, k2, k3⟩ := owns_slice g1
  exact Lib.wpList_append_run w hgd s x t tn ho _ _ hs hx _ w' hr (h' a' c' w' g1 k1 k2 k3 ((Below.refl base w).grown g2 hbase fun k hk => (hown.lt k hk).1))
theorem entC4_get : ∀ (l : List (Int × Int × Int × Int)) (i : Nat) (r : Int × Int × Int × Int), l[i]? = some r → ∀ j, j < 4 → (l.flatMap entC4)[i * 4 + j]? = (entC4 r)[j]?
  | [], i, r, h, _, _ => by simp at h
  | q :: l, 0, r, h, j, hj => by
    simp at h
    subst h
    rw [List.flatMap_cons, List.getElem?_append_left (by simp [entC4]; omega)]
    simp
  | q :: l, i + 1, r, h, j, hj => by
    rw [List.flatMap_cons, List.getElem?_append_right (by simp [entC4]; omega), show (i + 1) * 4 + j - (entC4 q).length = i * 4 + j by simp [entC4]; omega]
    exact entC4_get l i r (by simpa using h) j hj
def wfI (x : Int) : Prop := -9223372036854775808 ≤ x ∧ x ≤ 9223372036854775807
set_option maxRecDepth 100000 in
set_option maxHeartbeats 6400000 in
theorem write_any (p : PlanL) (k room : Nat) (zk zr : Int) (hzk : zk = (k : Nat)) (hzr : zr = (room : Nat)) (aC aR aE : Option Addr) (rv : List Value) (cC cR cE : Nat) (w : World) (h : PlanHas w p aC aR rv aE) (hC : p.cls.length ≤ 1000) (hR : p.rows.length ≤ 1000) (hE : p.ents.length ≤ 1000) (hroom : room ≤ 1000) (hk : k ≤ 2) (hwf : ∀ e ∈ p.ents, wfI e.1 ∧ wfI e.2.1 ∧ wfI e.2.2.1 ∧ wfI e.2.2.2) :
    Calls Try.prog 69 #[.agg #[.slice aC p.cls.length cC, .slice aR p.rows.length cR, .slice aE p.ents.length cE, .int .u8 (p.wide.toNat : Nat)], .int .i64 zk, .int .i64 zr] w fun e w' => ∃ a' c', e = .returned (.slice a' (planB p k room).length c') ∧ w'.ownsRow w.heap.size 5 1 (.slice a' (planB p k room).length c') (planB p k room).length (bytesV (planB p k room)) ∧ (planB p k room).length ≤ c' ∧ c' ≤ maxLen ∧ (a' = none → c' = 0) ∧ Below w.heap.size w w' := by
  have hAC := allocC
  have hAF := allocF
  subst hzk hzr
  have HP := Lib.hid h
  have HWF := Lib.hid hwf
  have hw8 : p.wide.toNat ≤ 255 := byte_le p.wide
  obtain ⟨n, hn⟩ : ∃ n, n = p.n := ⟨_, rfl⟩
  have hn4 : 4 ≤ n ∧ n ≤ 11 := by rw [hn]; unfold PlanL.n; omega
  have HN := Lib.hid hn
  have hmod : (4 : Int) + (p.wide.toNat : Int) % 8 = (n : Int) := by rw [hn]; unfold PlanL.n; omega
  clear h hn hwf
  generalize hwd : p.wide.toNat = wd at *
  clear hwd
  generalize hnC : p.cls.length = nC at *
  generalize hnR : p.rows.length = nR at *
  generalize hnE : p.ents.length = nE at *
  have HNC := Lib.hid hnC
  have HNR := Lib.hid hnR
  have HNE := Lib.hid hnE
  clear hnC hnR hnE
  go_enter Try.func69, Try.ntmps69
  go_wp2_with fail
  obtain ⟨V, hV⟩ : ∃ V, V = (w.alloc (Obj.cells #[.slice aC nC cC, .slice aR nR cR, .slice aE nE cE, .int .u8 (wd : Nat)] 51)) := ⟨_, rfl⟩
  have hb : Below w.heap.size w V := by rw [hV]; exact blw
  have z3 : V.heap[w.heap.size]? = some (.cells #[.slice aC nC cC, .slice aR nR cR, .slice aE nE cE, .int .u8 (wd : Nat)] 51 (0, 0)) := by rw [hV, heap_push, if_pos rfl]
  rw [← hV]
  have HB := Lib.hid hb
  have Z3 := Lib.hid z3
  have HPV := Lib.hid (HP.out.below hb)
  have hl3 := (Array.getElem?_eq_some_iff.1 z3).1
  have hwV : w.heap.size ≤ V.heap.size := by omega
  have q3 := fun o => cell_of_heap z3 o
  have HP1 := Lib.hid (fun W (hW : V.heap.size ≤ W.heap.size) => put_zz V.heap.size none 0 0 8 2 2 8 2 rfl rfl rfl [] W (World.ownsRow_nil _ _ _ _) hW (by omega) (by omega) (by omega))
  clear hV hb z3 HP
  refine wp_region_tree (.step 2 (.step 3 (.step 4 (.step 0 (.step 1 (.step 5 (.step 6 .nil))))))) (by kernel_rfl) (by kernel_rfl) (by kernel_rfl) (by kernel_rfl) (by intro _ _ d_ _ _ h_; cases d_ <;> first | exact h_ | (dsimp +zetaDelta only at h_ ⊢; exact h_)) (fun w' => ∃ p : BelW V.heap.size V, w' = p.val) (bel_start _ _) ?_
  have hG_ := @belC V.heap.size V
  (refine tree_quiet gtA (by rfl) (by rfl) (fun K_ hK_ => ?_); go_big_quiet_op; refine hK_ _ ?_; clear hK_ K_)
  (refine tree_quiet gtA (by rfl) (by rfl) (fun K_ hK_ => ?_); go_big_quiet_op; refine hK_ _ ?_; clear hK_ K_)
  (refine tree_quiet gtA (by rfl) (by rfl) (fun K_ hK_ => ?_); go_big_quiet_op; refine hK_ _ ?_; clear hK_ K_)
  (refine tree_run gtA (by rfl) (by rfl) (fun K_ hK_ => ?_); have HK_ := Lib.hid hK_; clear hK_; go_wp2_with (first | (go_at_call 70; (with_reducible refine (HP1.out _ (by simp)).mono ?_); rintro e w1 ⟨a1, c1, rfl, ho1, k1, m1, n1, hb1, _⟩; have hz1 := hb1.size; (try simp only [World.size_drew] at hz1); have HP2 := Lib.hid (put_zz V.heap.size a1 2 c1 0 2 4 0 2 rfl rfl rfl _ w1 ho1 hz1 (by omega) (by omega) (by omega))) | (go_at_call 70; (with_reducible refine HP2.out.mono ?_); rintro e w2 ⟨a2, c2, rfl, ho2, k2, m2, n2, hb2, _⟩; have hz2 := hb2.size; have HP3 := Lib.hid (put_zz V.heap.size a2 4 c2 nC 2 6 (nC : Int) 2 rfl rfl rfl _ w2 ho2 (by omega) (by omega) (by omega) (by omega))) | (go_at_call 70; (with_reducible refine HP3.out.mono ?_); rintro e w3 ⟨a3, c3, rfl, ho3, k3, m3, n3, hb3, _⟩)); refine HK_.out _ _ (bel_ofA) ?_; clear HK_)
  (refine tree_run gtA (by rfl) (by rfl) (fun K_ hK_ => ?_); have HK_ := Lib.hid hK_; clear hK_; go_wp2_with (first | (go_at_call 70; (with_reducible refine (HP1.out _ (by simp)).mono ?_); rintro e w1 ⟨a1, c1, rfl, ho1, k1, m1, n1, hb1, _⟩; have hz1 := hb1.size; (try simp only [World.size_drew] at hz1); have HP2 := Lib.hid (put_zz V.heap.size a1 2 c1 0 2 4 0 2 rfl rfl rfl _ w1 ho1 hz1 (by omega) (by omega) (by omega))) | (go_at_call 70; (with_reducible refine HP2.out.mono ?_); rintro e w2 ⟨a2, c2, rfl, ho2, k2, m2, n2, hb2, _⟩; have hz2 := hb2.size; have HP3 := Lib.hid (put_zz V.heap.size a2 4 c2 nC 2 6 (nC : Int) 2 rfl rfl rfl _ w2 ho2 (by omega) (by omega) (by omega) (by omega))) | (go_at_call 70; (with_reducible refine HP3.out.mono ?_); rintro e w3 ⟨a3, c3, rfl, ho3, k3, m3, n3, hb3, _⟩)); refine HK_.out _ _ (bel_ofA) ?_; clear HK_)
  (refine tree_run gtA (by rfl) (by rfl) (fun K_ hK_ => ?_); have HK_ := Lib.hid hK_; clear hK_; go_wp2_with (first | (go_at_call 70; (with_reducible refine (HP1.out _ (by simp)).mono ?_); rintro e w1 ⟨a1, c1, rfl, ho1, k1, m1, n1, hb1, _⟩; have hz1 := hb1.size; (try simp only [World.size_drew] at hz1); have HP2 := Lib.hid (put_zz V.heap.size a1 2 c1 0 2 4 0 2 rfl rfl rfl _ w1 ho1 hz1 (by omega) (by omega) (by omega))) | (go_at_call 70; (with_reducible refine HP2.out.mono ?_); rintro e w2 ⟨a2, c2, rfl, ho2, k2, m2, n2, hb2, _⟩; have hz2 := hb2.size; have HP3 := Lib.hid (put_zz V.heap.size a2 4 c2 nC 2 6 (nC : Int) 2 rfl rfl rfl _ w2 ho2 (by omega) (by omega) (by omega) (by omega))) | (go_at_call 70; (with_reducible refine HP3.out.mono ?_); rintro e w3 ⟨a3, c3, rfl, ho3, k3, m3, n3, hb3, _⟩)); refine HK_.out _ _ (bel_ofA) ?_; clear HK_)
  (refine tree_quiet gtA (by rfl) (by rfl) (fun K_ hK_ => ?_); go_big_quiet_op; refine hK_ _ ?_; clear hK_ K_)
  refine tree_nil ?_
  clear hG_
  have HB3 := Lib.hid (show Below V.heap.size V w3 from (bdrew1 (brefl V)).trans (hb1.trans (hb2.trans hb3)))
  have HO3 := Lib.hid ho3
  have z3 := (HB3.out.block _ hl3).trans Z3.out
  have q3 := fun o => cell_of_heap z3 o
  have hV3 : V.heap.size ≤ w3.heap.size := HB3.out.size
  have hl33 := (Array.getElem?_eq_some_iff.1 z3).1
  clear ho1 ho2 ho3 hb1 hb2 hb3 HP1 HP2 HP3 z3 k1 m1 n1 k2 m2 n2
  go_wp2_with fail
  go_loopw [9, 37] (CRel V.heap.size V p.cls) (fun _ i _ => nC - (Go.RowKit.intOf i).toNat)
  case atStart => exact ⟨0, a3, c3, Nat.zero_le _, rfl, rfl, by have := HO3.out; simpa [ofB, clsB, HNC.out] using this, k3, m3, n3, HB3.out⟩
  case round =>
    obtain ⟨j, a4, c4, hj, rfl, rfl, ho4, k4, m4, n4, hbr⟩ := hrel
    rw [HNC.out] at hj
    have HO4 := Lib.hid ho4
    have HN4 := Lib.hid n4
    have HBR := Lib.hid hbr
    have hVr : V.heap.size ≤ wr.heap.size := hbr.size
    clear ho4 n4 hbr
    by_cases hlt : j < nC
    · have hHc := HPV.out.cls.below HBR.out
      obtain ⟨bC, oC, hbC, hblC, hcell⟩ := hHc.get (by rw [bytesV_length, HNC.out]; omega)
      have e0 := hcell j _ (bytesV_get p.cls j (by rw [HNC.out]; exact hlt))
      have hby := byte_le (p.cls.getD j 0)
      have hsn := clsB_snoc p.cls j (by rw [HNC.out]; exact hlt)
      generalize hbt : (p.cls.getD j 0).toNat = bt at *
      have HSN := Lib.hid hsn
      have HPT := Lib.hid (put_zz V.heap.size a4 (6 + 2 * j) c4 bt 2 (6 + 2 * (j + 1)) (bt : Int) 2 rfl rfl (by omega) _ wr HO4.out hVr (by omega) (by omega) (by omega))
      subst hbC
      clear hHc hcell hsn hbt
      go_wp2_with (first | (go_at_call 70; (with_reducible refine HPT.out.mono ?_); rintro e w5 ⟨a5, c5, rfl, ho5, k5, m5, n5, hb5, _⟩))
      have HO5 := Lib.hid ho5
      have HN5 := Lib.hid n5
      clear ho5 n5
      go_roundw
      case rel => exact ⟨j + 1, a5, c5, by rw [HNC.out]; omega, by go_num, by first | rfl | go_num, by rw [HSN.out, ← List.append_assoc]; exact HO5.out, by omega, m5, HN5.out, HBR.out.trans hb5⟩
      case measure => simp [Go.RowKit.intOf]; omega
    · obtain rfl : nC = j := by omega
      obtain ⟨W1, hW1⟩ : ∃ W1, W1 = wr := ⟨_, rfl⟩
      rw [← hW1] at HO4 HBR hVr ⊢
      clear hW1
      have z3 := (HBR.out.block _ hl3).trans Z3.out
      have q3 := fun o => cell_of_heap z3 o
      have ZW1 := Lib.hid z3
      have hl3W := (Array.getElem?_eq_some_iff.1 z3).1
      have HPW := Lib.hid (HPV.out.below HBR.out)
      have hOF := Lib.hid (show BRow V.heap.size (ofB p.cls ++ clsB p.cls) (.slice a4 (6 + 2 * nC) c4) W1 from by
        have hlen : (ofB p.cls ++ clsB p.cls).length = 6 + 2 * nC := by rw [List.length_append, clsB_length, HNC.out]; simp [ofB, beN_length]
        have := HO4.out
        rw [List.take_of_length_le (by rw [HNC.out]; omega)] at this
        refine ⟨a4, c4, by rw [hlen], by rw [hlen]; exact this, by omega, m4, HN4.out⟩)
      clear z3 HO4
      go_wp2_with fail
      go_loopw [12, 49] (RRel W1.heap.size W1 p.rows n) (fun _ i _ => nR - (Go.RowKit.intOf i).toNat)
      case atStart => exact ⟨0, Nat.zero_le _, rfl, BRow.nil _ _, Below.refl _ _⟩
      case round =>
        obtain ⟨j, hj, rfl, hrow, hbq⟩ := hrel
        rename World => wq
        rw [HNR.out] at hj
        have HROW := Lib.hid hrow
        have HBQ := Lib.hid hbq
        have hWq : W1.heap.size ≤ wq.heap.size := hbq.size
        clear hrow hbq
        by_cases hlt : j < nR
        · obtain ⟨r, hr⟩ : ∃ r, p.rows[j]? = some r := ⟨_, List.getElem?_eq_getElem (by rw [HNR.out]; exact hlt)⟩
          have HPQ := Lib.hid (HPW.out.below HBQ.out)
          obtain ⟨ai, ci, hv, hrb⟩ := HPW.out.row j r hr
          obtain ⟨bR, oR, hbR, hblR, hcell⟩ := HPQ.out.rows.get (by rw [HPQ.out.rlen, HNR.out]; omega)
          have e0 := hcell j _ hv
          have HSN := Lib.hid (rowsPB_snoc p.rows n j r hr)
          have hlenX : (rowsPB (p.rows.take j) n).length ≤ 22000 := by
            rw [rowsPB_length, List.length_take]
            have : min j p.rows.length * n ≤ 1000 * 11 := Nat.mul_le_mul (by omega) hn4.2
            omega
          have HRB := Lib.hid hrb
          subst hbR
          clear hcell hv hrb hr
          generalize rowsPB (p.rows.take j) n = X at *
          generalize hrl : r.length = rl at *
          have HRL := Lib.hid hrl
          clear hrl
          go_wp2_with fail
          go_loopw [12, 54] (fun rs i wu => ∃ q : Nat, q ≤ n ∧ i = .int .i64 (q : Nat) ∧ BRow W1.heap.size (X ++ rowPB r q) rs wu ∧ Below W1.heap.size W1 wu) (fun _ i _ => n - (Go.RowKit.intOf i).toNat)
          case atStart => exact ⟨0, Nat.zero_le _, rfl, by have := HROW.out; simpa [rowPB] using this, HBQ.out⟩
          case round =>
            obtain ⟨q, hq, rfl, hrow, hbu⟩ := hrel
            rename World => wu
            have HRW := Lib.hid hrow
            have HBU := Lib.hid hbu
            have hWu : W1.heap.size ≤ wu.heap.size := hbu.size
            clear hrow hbu
            by_cases hlq : q < n
            · have hbd : (X ++ rowPB r q).length ≤ 1000000000 := by rw [List.length_append, rowPB_length]; omega
              have hby := byte_le (r.getD q 0)
              have HSQ := Lib.hid (rowPB_succ r q)
              by_cases hqr : q < rl
              · have dq : decide ((q : Int) < (rl : Int)) = true := by simp; omega
                have HPT := Lib.hid (put_row W1.heap.size (r.getD q 0).toNat 2 ((r.getD q 0).toNat : Int) 2 rfl rfl _ _ wu HRW.out hWu (by omega) hbd (by omega))
                have hHr := HRB.out.below HBU.out
                obtain ⟨bI, oI, hbI, hblI, hcI⟩ := hHr.get (by rw [bytesV_length, HRL.out]; omega)
                have e1 := hcI q _ (bytesV_get r q (by rw [HRL.out]; exact hqr))
                subst hbI
                clear hcI hHr
                generalize (r.getD q 0).toNat = bt at *
                go_wp2_with (first | (go_at_call 70; (with_reducible refine HPT.out.mono ?_); rintro e w5 ⟨s5, rfl, hr5, hb5, _⟩; have HR5 := Lib.hid hr5; have HB5 := Lib.hid hb5; clear hr5 hb5))
                go_roundw
                case rel => exact ⟨q + 1, hlq, by go_num, by rw [HSQ.out, ← List.append_assoc]; exact HR5.out, HBU.out.trans HB5.out⟩
                case measure => simp [Go.RowKit.intOf]; omega
              · have dq : decide ((q : Int) < (rl : Int)) = false := by simp; omega
                have h0 : (r.getD q 0).toNat = 0 := by
                  rw [List.getD_eq_getElem?_getD, List.getElem?_eq_none (by rw [HRL.out]; omega)]; rfl
                have HPT := Lib.hid (put_row W1.heap.size (r.getD q 0).toNat 2 0 2 (by rw [h0]; rfl) rfl _ _ wu HRW.out hWu (by omega) hbd (by omega))
                clear h0
                generalize (r.getD q 0).toNat = bt at *
                go_wp2_with (first | (go_at_call 70; (with_reducible refine HPT.out.mono ?_); rintro e w5 ⟨s5, rfl, hr5, hb5, _⟩; have HR5 := Lib.hid hr5; have HB5 := Lib.hid hb5; clear hr5 hb5))
                go_roundw
                case rel => exact ⟨q + 1, hlq, by go_num, by rw [HSQ.out, ← List.append_assoc]; exact HR5.out, HBU.out.trans HB5.out⟩
                case measure => simp [Go.RowKit.intOf]; omega
            · obtain rfl : n = q := by omega
              go_wp2_with fail
              go_roundw
              case rel => exact ⟨j + 1, by rw [HNR.out]; omega, by go_num, by rw [HSN.out]; exact HRW.out, HBU.out⟩
              case measure => simp [Go.RowKit.intOf]; omega
        · obtain rfl : nR = j := by omega
          have HBQV := Lib.hid (HBR.out.trans (HBQ.out.mono hVr))
          have z3 := (HBQV.out.block _ hl3).trans Z3.out
          have q3 := fun o => cell_of_heap z3 o
          have ZWQ := Lib.hid z3
          have hl3Q := (Array.getElem?_eq_some_iff.1 z3).1
          have HPQ := Lib.hid (HPV.out.below HBQV.out)
          have hRW := Lib.hid (show BRow W1.heap.size (rowsPB p.rows n) u12 wq from by have := HROW.out; rwa [List.take_of_length_le (by rw [HNR.out]; omega)] at this)
          have hOF2 := Lib.hid (hOF.out.below HBQ.out)
          clear z3 HROW
          go_wp2_with fail
          go_loopw [13, 74] (ERel wq.heap.size wq p.ents k) (fun _ i _ => nE - (Go.RowKit.intOf i).toNat)
          case atStart => exact ⟨0, Nat.zero_le _, rfl, BRow.nil _ _, Below.refl _ _⟩
          case round =>
            obtain ⟨j, hj, rfl, hrow, hbu⟩ := hrel
            rename World => wu
            rw [HNE.out] at hj
            have HROW := Lib.hid hrow
            have HBU := Lib.hid hbu
            have hQu : wq.heap.size ≤ wu.heap.size := hbu.size
            clear hrow hbu
            by_cases hlt : j < nE
            · obtain ⟨⟨x0, x1, x2, x3⟩, he⟩ : ∃ e, p.ents[j]? = some e := ⟨_, List.getElem?_eq_getElem (by rw [HNE.out]; exact hlt)⟩
              obtain ⟨⟨i0, i1⟩, ⟨i2, i3⟩, ⟨i4, i5⟩, ⟨i6, i7⟩⟩ := HWF.out _ (List.mem_of_getElem? he)
              simp only at i0 i1 i2 i3 i4 i5 i6 i7
              have HSN := Lib.hid (entsPB_snoc k p.ents j _ he)
              have hlenX : (entsPB k (p.ents.take j)).length ≤ 8000 := by
                rw [entsPB_length _ _ hk, List.length_take]
                have : min j p.ents.length * (4 + 2 * k) ≤ 1000 * 8 := Nat.mul_le_mul (by omega) (by omega)
                omega
              have hHe := HPQ.out.ents.below HBU.out
              obtain ⟨bE, oE, hbE, hblE, hcE⟩ := hHe.get (by
                have := entC4_get p.ents j _ he 0 (by omega)
                rcases Nat.eq_zero_or_pos (p.ents.flatMap entC4).length with g0 | g0
                · rw [List.getElem?_eq_none (by omega)] at this; simp [entC4] at this
                · exact g0)
              have e0 := hcE (j * 4) _ (entC4_get p.ents j _ he 0 (by omega))
              have e1 := hcE (j * 4 + 1) _ (entC4_get p.ents j _ he 1 (by omega))
              have e2 := hcE (j * 4 + 2) _ (entC4_get p.ents j _ he 2 (by omega))
              have e3 := hcE (j * 4 + 3) _ (entC4_get p.ents j _ he 3 (by omega))
              simp only [← Nat.add_assoc] at e0 e1 e2 e3
              subst hbE
              have hEP : entPB k (x0, x1, x2, x3) = beN 2 (m16 x0) ++ beN 2 (m16 x1) ++ (if 0 < k then beN 2 (m16 x2) else []) ++ (if 1 < k then beN 2 (m16 x3) else []) := rfl
              have HEP := Lib.hid hEP
              clear hcE hHe he hEP
              generalize entsPB k (p.ents.take j) = X at *
              have y0 := m16_lt x0
              have y1 := m16_lt x1
              have y2 := m16_lt x2
              have y3 := m16_lt x3
              have HA0 := Lib.hid (fun W (h : BRow wq.heap.size X u13 W) hB => put_row wq.heap.size (m16 x0) 2 (bits .and .i64 x0 65535) 2 (i64_and16 x0 i0 i1) rfl X u13 W h hB (by omega) (by omega) (by omega))
              have HA1 := Lib.hid (fun s W (h : BRow wq.heap.size (X ++ beN 2 (m16 x0)) s W) hB => put_row wq.heap.size (m16 x1) 2 (bits .and .i64 x1 65535) 2 (i64_and16 x1 i2 i3) rfl _ s W h hB (by omega) (by simp [beN_length]; omega) (by omega))
              have HA2 := Lib.hid (fun s W (h : BRow wq.heap.size (X ++ beN 2 (m16 x0) ++ beN 2 (m16 x1)) s W) hB => put_row wq.heap.size (m16 x2) 2 (bits .and .i64 x2 65535) 2 (i64_and16 x2 i4 i5) rfl _ s W h hB (by omega) (by simp [beN_length]; omega) (by omega))
              have HA3 := Lib.hid (fun s W (h : BRow wq.heap.size (X ++ beN 2 (m16 x0) ++ beN 2 (m16 x1) ++ beN 2 (m16 x2)) s W) hB => put_row wq.heap.size (m16 x3) 2 (bits .and .i64 x3 65535) 2 (i64_and16 x3 i6 i7) rfl _ s W h hB (by omega) (by simp [beN_length]; omega) (by omega))
              clear i0 i1 i2 i3 i4 i5 i6 i7
              go_wp2_with fail
              obtain ⟨U, hU⟩ : ∃ U, U = (wu.alloc (Obj.cells #[.int .i64 x0, .int .i64 x1, .int .i64 x2, .int .i64 x3] 88)) := ⟨_, rfl⟩
              have hbU : Below wu.heap.size wu U := by rw [hU]; exact blw
              have x19 : U.heap[wu.heap.size]? = some (.cells #[.int .i64 x0, .int .i64 x1, .int .i64 x2, .int .i64 x3] 88 (0, 0)) := by rw [hU, heap_push, if_pos rfl]
              have hzU : U.heap.size = wu.heap.size + 1 := by rw [hU]; simp
              rw [← hU]
              have HX19 := Lib.hid x19
              have HRU := Lib.hid (HROW.out.below (hbU.trans ((bdrew1 (brefl U)).mono hbU.size)))
              have HBUU := Lib.hid (HBU.out.trans (hbU.mono hQu))
              have hlU := (Array.getElem?_eq_some_iff.1 x19).1
              clear hU hbU e0 e1 e2 e3
              refine wp_region_tree (.step 0 (.step 1 (.step 2 (.step 3 (.step 5 (.step 6 (.step 7 (.step 4 (.step 8 (.step 9 .nil)))))))))) (by kernel_rfl) (by kernel_rfl) (by kernel_rfl) (by kernel_rfl) (by intro _ _ d_ _ _ h_; cases d_ <;> first | exact h_ | (dsimp +zetaDelta only at h_ ⊢; exact h_)) (fun w' => ∃ p : KeptW U, w' = p.val) (kept_start _) ?_
              have hK0_ := fun (p : KeptW U) (o : Nat) => p.is.cell x19 (by decide) o
              (refine tree_quiet gtA (by rfl) (by rfl) (fun K_ hK_ => ?_); go_big_quiet_op; refine hK_ _ ?_; clear hK_ K_)
              (refine tree_quiet gtA (by rfl) (by rfl) (fun K_ hK_ => ?_); go_big_quiet_op; refine hK_ _ ?_; clear hK_ K_)
              (refine tree_quiet gtA (by rfl) (by rfl) (fun K_ hK_ => ?_); go_big_quiet_op; refine hK_ _ ?_; clear hK_ K_)
              (refine tree_quiet gtA (by rfl) (by rfl) (fun K_ hK_ => ?_); go_big_quiet_op; refine hK_ _ ?_; clear hK_ K_)
              (refine tree_quiet gtA (by rfl) (by rfl) (fun K_ hK_ => ?_); go_big_quiet_op; refine hK_ _ ?_; clear hK_ K_)
              (refine tree_quiet gtA (by rfl) (by rfl) (fun K_ hK_ => ?_); go_big_quiet_op; refine hK_ _ ?_; clear hK_ K_)
              (refine tree_quiet gtA (by rfl) (by rfl) (fun K_ hK_ => ?_); go_big_quiet_op; refine hK_ _ ?_; clear hK_ K_)
              (refine tree_run gtA (by rfl) (by rfl) (fun K_ hK_ => ?_); have HK_ := Lib.hid hK_; clear hK_; go_wp2_with (first | (go_at_call 70; (with_reducible refine (HA0.out _ HRU.out (by simp; omega)).mono ?_); rintro e w5 ⟨s5, rfl, hr5, hb5, hk5⟩; have hz5 := hb5.size; (try simp only [World.size_drew] at hz5)) | (go_at_call 70; (with_reducible refine (HA1.out _ _ hr5 (by omega)).mono ?_); rintro e w6 ⟨s6, rfl, hr6, hb6, hk6⟩; have hz6 := hb6.size)); refine HK_.out _ _ (kept_ofA) ?_; clear HK_)
              (refine tree_run gtA (by rfl) (by rfl) (fun K_ hK_ => ?_); have HK_ := Lib.hid hK_; clear hK_; go_wp2_with (first | (go_at_call 70; (with_reducible refine (HA0.out _ HRU.out (by simp; omega)).mono ?_); rintro e w5 ⟨s5, rfl, hr5, hb5, hk5⟩; have hz5 := hb5.size; (try simp only [World.size_drew] at hz5)) | (go_at_call 70; (with_reducible refine (HA1.out _ _ hr5 (by omega)).mono ?_); rintro e w6 ⟨s6, rfl, hr6, hb6, hk6⟩; have hz6 := hb6.size)); refine HK_.out _ _ (kept_ofA) ?_; clear HK_)
              (refine tree_quiet gtA (by rfl) (by rfl) (fun K_ hK_ => ?_); go_big_quiet_op; refine hK_ _ ?_; clear hK_ K_)
              refine tree_nil ?_
              clear hK0_
              have HB6 := Lib.hid (show Below wq.heap.size wq w6 from HBUU.out.trans (((bdrew1 (brefl U)).mono (by omega)).trans (hb5.trans hb6)))
              have hK6 : Kept U w6 := (Kept.below (bdrew1 (brefl U))).trans (hk5.trans hk6)
              have y19 := (hK6.2 _ _ _ _ HX19.out (by decide)).trans HX19.out
              have q19 := fun o => cell_of_heap y19 o
              have HY19 := Lib.hid y19
              have HR6 := Lib.hid hr6
              have hl6 := (Array.getElem?_eq_some_iff.1 y19).1
              clear hr5 hr6 hb5 hb6 hk5 hk6 hK6 y19 x19 HA0 HA1
              by_cases hk0 : 0 < k
              case neg =>
                have d0 : decide ((0 : Int) < (k : Int)) = false := by simp; omega
                have d0' : decide (0 < k) = false := by simp; omega
                have d1 : decide ((1 : Int) < (k : Int)) = false := by simp; omega
                have d1' : decide (1 < k) = false := by simp; omega
                have HE2 := Lib.hid (show X ++ entPB k (x0, x1, x2, x3) = X ++ beN 2 (m16 x0) ++ beN 2 (m16 x1) from by rw [HEP.out, if_neg hk0, if_neg (by omega)]; simp)
                clear hk0
                go_wp2_with fail
                go_roundw
                case rel => exact ⟨j + 1, by rw [HNE.out]; omega, by go_num, by rw [HSN.out, HE2.out]; exact HR6.out, HB6.out⟩
                case measure => simp [Go.RowKit.intOf]; omega
              have d0 : decide ((0 : Int) < (k : Int)) = true := by simp; omega
              have d0' : decide (0 < k) = true := by simp; omega
              have HA2' := Lib.hid (HA2.out _ _ HR6.out (by omega))
              by_cases hk1 : 1 < k
              case neg =>
                have d1 : decide ((1 : Int) < (k : Int)) = false := by simp; omega
                have d1' : decide (1 < k) = false := by simp; omega
                have HE2 := Lib.hid (show X ++ entPB k (x0, x1, x2, x3) = X ++ beN 2 (m16 x0) ++ beN 2 (m16 x1) ++ beN 2 (m16 x2) from by rw [HEP.out, if_pos hk0, if_neg hk1]; simp)
                clear hk0 hk1
                go_wp2_with (first | (go_at_call 70; (with_reducible refine HA2'.out.mono ?_); rintro e w7 ⟨s7, rfl, hr7, hb7, hk7⟩; have HR7 := Lib.hid hr7; have HB7 := Lib.hid (HB6.out.trans hb7); clear hr7 hb7 hk7))
                go_roundw
                case rel => exact ⟨j + 1, by rw [HNE.out]; omega, by go_num, by rw [HSN.out, HE2.out]; exact HR7.out, HB7.out⟩
                case measure => simp [Go.RowKit.intOf]; omega
              have d1 : decide ((1 : Int) < (k : Int)) = true := by simp; omega
              have d1' : decide (1 < k) = true := by simp; omega
              have HE2 := Lib.hid (show X ++ entPB k (x0, x1, x2, x3) = X ++ beN 2 (m16 x0) ++ beN 2 (m16 x1) ++ beN 2 (m16 x2) ++ beN 2 (m16 x3) from by rw [HEP.out, if_pos hk0, if_pos hk1]; simp)
              clear hk0 hk1
              go_wp2_with (first | (go_at_call 70; (with_reducible refine HA2'.out.mono ?_); rintro e w7 ⟨s7, rfl, hr7, hb7, hk7⟩; have HB7 := Lib.hid (HB6.out.trans hb7); have y19 := (hk7.2 _ _ _ _ HY19.out (by decide)).trans HY19.out; have q19' := fun o => cell_of_heap y19 o; have hz7 := hb7.size; have HA3' := Lib.hid (HA3.out _ _ hr7 (by omega)); clear hr7 hb7 hk7 y19) | (go_at_call 70; (with_reducible refine HA3'.out.mono ?_); rintro e w8 ⟨s8, rfl, hr8, hb8, hk8⟩; have HR8 := Lib.hid hr8; have HB8 := Lib.hid (HB7.out.trans hb8); clear hr8 hb8 hk8))
              go_roundw
              case rel => exact ⟨j + 1, by rw [HNE.out]; omega, by go_num, by rw [HSN.out, HE2.out]; exact HR8.out, HB8.out⟩
              case measure => simp [Go.RowKit.intOf]; omega
            · obtain rfl : nE = j := by omega
              have HBUV := Lib.hid (HBR.out.trans (((HBQ.out.mono hVr)).trans (HBU.out.mono (by omega))))
              have z3 := (HBUV.out.block _ hl3).trans Z3.out
              have hOF3 := hOF2.out.below HBU.out
              have hRW3 := hRW.out.below HBU.out
              have hEW3 := HROW.out
              rw [List.take_of_length_le (by rw [HNE.out]; omega)] at hEW3
              have hlO : (ofB p.cls ++ clsB p.cls).length = 6 + 2 * nC := by rw [List.length_append, clsB_length, HNC.out]; simp [ofB, beN_length]
              have hlR : (rowsPB p.rows n).length = 2 * (nR * n) := by rw [rowsPB_length, HNR.out]
              have hlE : (entsPB k p.ents).length = nE * (4 + 2 * k) := by rw [entsPB_length _ _ hk, HNE.out]
              have hbR : nR * n ≤ 1000 * 11 := Nat.mul_le_mul hR hn4.2
              have hbE : nE * (4 + 2 * k) ≤ 1000 * 8 := Nat.mul_le_mul hE (by omega)
              have HPL := Lib.hid (show planB p k room = beN 4 n ++ beN 4 (16 + room) ++ beN 4 (16 + room + (6 + 2 * nC)) ++ beN 4 (16 + room + (6 + 2 * nC) + 2 * (nR * n)) ++ List.replicate room 0 ++ (ofB p.cls ++ clsB p.cls) ++ rowsPB p.rows n ++ entsPB k p.ents from by unfold planB; rw [HNC.out, HNR.out, ← HN.out])
              obtain ⟨aO, cO, hsO, hoO, kO, mO, nO⟩ := hOF3
              obtain ⟨aW, cW, rfl, hoW, kW, mW, nW⟩ := hRW3
              obtain ⟨aY, cY, rfl, hoY, kY, mY, nY⟩ := hEW3
              rw [hlO] at hsO hoO
              injection hsO with hsO1 _ hsO2
              subst hsO1 hsO2
              obtain ⟨LR, hLR⟩ : ∃ LR, LR = 2 * (nR * n) := ⟨_, rfl⟩
              obtain ⟨LE, hLE⟩ : ∃ LE, LE = nE * (4 + 2 * k) := ⟨_, rfl⟩
              rw [← hLR] at hlR HPL
              rw [← hLE] at hlE
              rw [hlR] at hoW kW ⊢
              rw [hlE] at hoY kY ⊢
              have HHO := Lib.hid (has_of_owns hoO)
              have HHW := Lib.hid (has_of_owns hoW)
              have HHY := Lib.hid (has_of_owns hoY)
              have HNO := Lib.hid nO
              have HNW := Lib.hid nW
              have HNY := Lib.hid nY
              have hlr : LR ≤ 22000 := by omega
              have hle : LE ≤ 8000 := by omega
              have HLO := Lib.hid hlO
              have HLR := Lib.hid hlR
              have HLE := Lib.hid hlE
              clear hoO hoW hoY nO nW nY hlO hlR hlE hLR hLE hbR hbE z3
              generalize ofB p.cls ++ clsB p.cls = OB at *
              generalize rowsPB p.rows n = RB at *
              generalize entsPB k p.ents = EB at *
              have HB1 := Lib.hid (put_zz wu.heap.size none 0 0 n 4 4 (n : Int) 4 rfl rfl rfl [] wu (World.ownsRow_nil _ _ _ _) (Nat.le_refl _) (by omega) (by omega) (by omega))
              go_wp2_with (first | (go_at_call 70; (with_reducible refine (HB1.out).mono ?_); rintro e w11 ⟨aw11, cw11, rfl, how11, kw11, mw11, nw11, hbw11, _⟩; have hzw11 := hbw11.size; have HB2 := Lib.hid (put_zz wu.heap.size aw11 4 cw11 (16 + room) 4 8 (16 + (room : Int)) 4 (by omega) rfl rfl _ w11 how11 hzw11 (by omega) (by omega) (by omega))) | (go_at_call 70; (with_reducible refine (HB2.out).mono ?_); rintro e w12 ⟨aw12, cw12, rfl, how12, kw12, mw12, nw12, hbw12, _⟩; have hzw12 := hbw12.size; have HB3 := Lib.hid (fun (z : Int) (hz : z = ((16 + room + (6 + 2 * nC) : Nat) : Int)) => put_zz wu.heap.size aw12 8 cw12 (16 + room + (6 + 2 * nC)) 4 12 z 4 hz rfl rfl _ w12 how12 (by omega) (by omega) (by omega) (by omega))) | (go_at_call 70; (with_reducible refine (HB3.out _ (by omega)).mono ?_); rintro e w13 ⟨aw13, cw13, rfl, how13, kw13, mw13, nw13, hbw13, _⟩; have hzw13 := hbw13.size; have HB4 := Lib.hid (fun (z : Int) (hz : z = ((16 + room + (6 + 2 * nC) + LR : Nat) : Int)) => put_zz wu.heap.size aw13 12 cw13 (16 + room + (6 + 2 * nC) + LR) 4 16 z 4 hz rfl rfl _ w13 how13 (by omega) (by omega) (by omega) (by omega))) | (go_at_call 70; (with_reducible refine (HB4.out _ (by omega)).mono ?_); rintro e w14 ⟨aw14, cw14, rfl, how14, kw14, mw14, nw14, hbw14, _⟩; have hzw14 := hbw14.size; have HO14 := Lib.hid how14; have HBprev := hbw11.trans (hbw12.trans (hbw13.trans hbw14)); clear how14) | (at_builtin; refine wpAppZM rfl _ _ 22 3 9 rfl wu.heap.size 5 Try.underlying22 Try.underlying3 Try.underlying9 u8_info _ 16 _ rfl HO14.out room rfl (by omega) (by omega) ?_; intro a15 c15 w15 ho15 k15 m15 n15 hb15; have hz15 := hb15.size; have HO15 := Lib.hid ho15; have HN15 := Lib.hid n15; have HB15 := Lib.hid (HBprev.trans hb15); clear ho15 n15 hb15) | (at_builtin; refine wpApp rfl _ _ 22 rfl wu.heap.size 5 (.int .u8 0) 1 1 Try.underlying22 u8_info rfl (by decide) _ (16 + room) _ rfl HO15.out a4 (6 + 2 * nC) c4 (bytesV OB) rfl (by rw [bytesV_length, HLO.out, Nat.mul_one]) (HHO.out.below HB15.out) HNO.out (bytesV_one _) (by unfold maxLen; omega) (by omega) (by omega) ?_; intro a16 c16 w16 ho16 k16 m16 n16 hb16 _; have hz16 := hb16.size; have HO16 := Lib.hid ho16; have HN16 := Lib.hid n16; have HB16 := Lib.hid (HB15.out.trans hb16); clear ho16 n16 hb16) | (at_builtin; refine wpApp rfl _ _ 22 rfl wu.heap.size 5 (.int .u8 0) 1 1 Try.underlying22 u8_info rfl (by decide) _ (16 + room + (6 + 2 * nC)) _ rfl HO16.out aW (LR) cW (bytesV RB) rfl (by rw [bytesV_length, HLR.out, Nat.mul_one]) (HHW.out.below HB16.out) HNW.out (bytesV_one _) (by unfold maxLen; omega) (by omega) (by omega) ?_; intro a17 c17 w17 ho17 k17 m17 n17 hb17 _; have hz17 := hb17.size; have HO17 := Lib.hid ho17; have HN17 := Lib.hid n17; have HB17 := Lib.hid (HB16.out.trans hb17); clear ho17 n17 hb17) | (at_builtin; refine wpApp rfl _ _ 22 rfl wu.heap.size 5 (.int .u8 0) 1 1 Try.underlying22 u8_info rfl (by decide) _ (16 + room + (6 + 2 * nC) + LR) _ rfl HO17.out aY (LE) cY (bytesV EB) rfl (by rw [bytesV_length, HLE.out, Nat.mul_one]) (HHY.out.below HB17.out) HNY.out (bytesV_one _) (by unfold maxLen; omega) (by omega) (by omega) ?_; intro a18 c18 w18 ho18 k18 m18 n18 hb18 _; have hz18 := hb18.size; have HO18 := Lib.hid ho18; have HN18 := Lib.hid n18; have HB18 := Lib.hid (HB17.out.trans hb18); clear ho18 n18 hb18))
              have hlen : (planB p k room).length = 16 + room + (6 + 2 * nC) + LR + LE := by
                rw [HPL.out]
                simp only [List.length_append, beN_length, List.length_replicate, HLO.out, HLR.out, HLE.out]
              have HLL := Lib.hid hlen
              have hfin : w18.ownsRow w.heap.size 5 1 (.slice a18 (16 + room + (6 + 2 * nC) + LR + LE) c18) (16 + room + (6 + 2 * nC) + LR + LE) (bytesV (planB p k room)) := by
                refine owns_mono (owns_eq HO18.out ?_) (by have := HBUV.out.size; omega)
                rw [HPL.out, List.nil_append, ← bytesV_append, ← bytesV_append, ← bytesV_append]
              have HF := Lib.hid hfin
              clear hlen hfin
              go_ret
              exact ⟨a18, c18, by rw [HLL.out]; rfl, by rw [HLL.out]; exact HF.out, by rw [HLL.out]; assumption, by assumption, HN18.out, HB.out.trans (HBUV.out.mono hwV |>.trans (HB18.out.mono (by have := HBUV.out.size; omega)))⟩

def bytesS : List UInt8 := [0, 0, 0, 4, 0, 0, 0, 16, 0, 0, 0, 26, 0, 0, 0, 42, 0, 8, 0, 0, 0, 2, 0, 3, 0, 9, 0, 0, 0, 0, 0, 0, 0, 0, 0, 0, 0, 0, 0, 0, 0, 0, 0, 1, 0, 5, 0, 7]
def rsS : List RP := rowsT 0 2 6 2
theorem okS : MOk bytesS 4 1 rsS 2 := by
  refine ⟨by decide, by decide, by decide, ?_, by decide, by decide, ⟨by unfold MClosed; decide, fun S' h => h.1⟩, by decide, by decide⟩
  refine ⟨.eight (by decide) (by decide) (by decide), ?_⟩
  exact (ok_rowsT _ _ _ _ _ (by decide)).2 (by decide)
theorem fitS : FitL (tabR (bytesS.drop (num bytesS 4 4)) rsS).1 (tabR (bytesS.drop (num bytesS 4 4)) rsS).2 := okS.lk.fit (by decide) (by decide)
end Go.Proofs.Ytaladlaffglkeaa
end
section

/- What an argument that is a plan is; the contract of small; numbers of a plan's bytes. Conditions: as each says. -/
namespace Go.Proofs.Ytaladlaffglkeaa
section
open Go.ChangeShapes Go.WideShapes Go.ChangeAt Go.RowKit
variable {H : Type} {enc : TypeId × Value → H}
end

open Go.RowKit Go.Lib
theorem planB_length (p : PlanL) (k room : Nat) (hk : k ≤ 2) : (planB p k room).length = 22 + room + 2 * p.cls.length + 2 * (p.rows.length * p.n) + p.ents.length * (4 + 2 * k) := by
  simp only [planB, ofB, List.length_append, beN_length, List.length_replicate, clsB_length, rowsPB_length, entsPB_length _ _ hk]
  omega
theorem numR (X Y : List UInt8) (m k s : Nat) (h : m = X.length + k) : num (X ++ Y) m s = num Y k s := by
  rw [h, ← num_dropS, List.drop_left]
theorem numL (X Y : List UInt8) (k s : Nat) (h : k + s ≤ X.length) : num (X ++ Y) k s = num X k s := by
  have := num_takeS (X ++ Y) X.length k s h
  rw [List.take_left] at this
  exact this.symm
theorem numB2 (z : Nat) (Z : List UInt8) (h : z ≤ 65535) : num (beN 2 z ++ Z) 0 2 = z := by
  rw [numL _ _ _ _ (by simp [beN_length])]
  simp [beN, num2, UInt8.toNat_ofNat']
  omega
end Go.Proofs.Ytaladlaffglkeaa
end
section

/- The document's answer of a lookup's parts, as a function, and that it is the table's. Conditions: as each says. -/
namespace Go.Proofs.Ytaladlaffglkeaa
open Go.RowKit Go.Lib

def inR (id : Int) (r : RP) : Bool := decide ((r.first : Int) ≤ id) && decide (id ≤ (r.last : Int))
/-- The first part that holds a glyph tells its number. -/
def refG (bs : List UInt8) (rs : List RP) (id : Int) : Nat × Bool := match rs.find? (inR id) with
  | some r => (num bs (r.at_ + (if r.own = true then r.size else 0) * (id - r.first).toNat) r.size, true)
  | none => (0, false)
theorem numsA_get (bs : List UInt8) (S k i : Nat) (h : i < k) : (numsA bs S k).getD i 0 = num bs (i * S) S := by
  simp [numsA, List.getD_eq_getElem?_getD, h]
theorem refG_tab (bs : List UInt8) (rs : List RP) (h : okR bs rs) (hr : ∀ r ∈ rs, r.last ≤ 70000 ∧ (r.size = 1 ∨ r.size = 2 ∨ r.size = 4)) (id : Int) : ∀ k, k ≤ rs.length → getL (tabR bs (rs.take k)).1 (tabR bs (rs.take k)).2 id = refG bs (rs.take k) id ∧ ((tabR bs (rs.take k)).1.find? (inP id) = none ↔ (rs.take k).find? (inR id) = none)
  | 0, _ => by rw [List.take_zero]; exact ⟨rfl, by simp [tabR]⟩
  | k + 1, hk => by
    have hx := List.getElem?_eq_getElem (show k < rs.length by omega)
    obtain ⟨ih1, ih2⟩ := refG_tab bs rs h hr id k (by omega)
    have hinv := invR_take bs rs h hr k (by omega)
    rw [tabR_take_succ hx, List.take_add_one, hx]
    generalize tabR bs (rs.take k) = s at *
    generalize rs.take k = l at *
    generalize rs[k] = r at *
    obtain ⟨ps, ns⟩ := s
    simp only [stepR, Option.toList]
    have hpr : inP id ⟨r.first, r.last, ns.length, if r.own = true then 1 else 0⟩ = inR id r := rfl
    cases hf : ps.find? (inP id) with
    | some p =>
      have hl : l.find? (inR id) ≠ none := fun hn => by
        have := ih2.2 hn
        simp only at this
        rw [hf] at this
        cases this
      obtain ⟨q, hq⟩ := Option.ne_none_iff_exists'.1 hl
      have hok := hinv.ok p (List.mem_of_find?_eq_some hf)
      have hin := List.find?_some hf
      simp only [inP, Bool.and_eq_true, decide_eq_true_eq] at hin
      have hlt : p.at_ + p.step * (id - p.first).toNat < ns.length := by
        obtain ⟨h1, h2, _⟩ := hok
        simp only at h2
        rcases h1 with h1 | h1 <;> rw [h1] at h2 ⊢ <;> omega
      constructor
      · unfold getL refG at ih1 ⊢
        simp only [List.find?_append, hf, hq, Option.some_or] at ih1 ⊢
        rw [← ih1, List.getD_eq_getElem?_getD, List.getElem?_append_left hlt, List.getD_eq_getElem?_getD]
      · simp [List.find?_append, hf, hq]
    | none =>
      have hl := ih2.1 hf
      constructor
      · unfold getL refG
        simp only [List.find?_append, hf, hl, Option.none_or, List.find?_cons, hpr]
        cases hi : inR id r with
        | false => rfl
        | true =>
          simp only [inR, Bool.and_eq_true, decide_eq_true_eq] at hi
          simp only
          congr 1
          cases ho : r.own with
          | true =>
            have hlt : (id - (r.first : Int)).toNat < r.last - r.first + 1 := by omega
            simp only [numsR, ho, if_true, Nat.one_mul]
            rw [List.getD_eq_getElem?_getD, List.getElem?_append_right (by omega), Nat.add_sub_cancel_left, ← List.getD_eq_getElem?_getD, numsA_get _ _ _ _ hlt, num_dropS, Nat.mul_comm]
          | false =>
            simp only [numsR, ho, Bool.false_eq_true, if_false, Nat.zero_mul, Nat.add_zero]
            rw [List.getD_eq_getElem?_getD, List.getElem?_append_right (by omega), Nat.sub_self]
            rfl
      · simp only [List.find?_append, hf, hl, Option.none_or, List.find?_cons, hpr]
        cases inR id r <;> simp
end Go.Proofs.Ytaladlaffglkeaa
end
section

/- The document's Get of a lookup. Conditions: as each says. -/
namespace Go.Proofs.Ytaladlaffglkeaa
open Go.RowKit Go.Lib

end Go.Proofs.Ytaladlaffglkeaa
end
section

/- The document's Class and Step of a machine, as it is read of bytes. Conditions: as each says. -/
namespace Go.Proofs.Ytaladlaffglkeaa
open Go.RowKit Go.Lib

def classG (tb : List UInt8) (rs : List RP) (C : Nat) (id : Int) : Nat :=
  if id = 65535 then 2 else if (refG tb rs id).2 = true ∧ (refG tb rs id).1 < C then (refG tb rs id).1 else 1
theorem classG_M {g : Nat} (bs : List UInt8) (rs : List RP) (h : LkOk (bs.drop (num bs 4 4)) g 2 rs) (hg : g ≤ 65535) (id : Int) : classG (bs.drop (num bs 4 4)) rs (num bs 0 4) id = classM bs rs id := by
  have := (refG_tab (bs.drop (num bs 4 4)) rs h.ok (fun r hr => (h.rows.each hg (.inl rfl)).2 r hr) id rs.length (Nat.le_refl _)).1
  rw [List.take_length] at this
  unfold classG classM
  rw [this]
end Go.Proofs.Ytaladlaffglkeaa
end
