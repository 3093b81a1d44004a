/- Joined from: HWrite HLong. -/
import Derived.Test.YthehcbbdkiomnaaJ04
import Derived.Test.YthehcbbdkiomnaaJ01
import Derived.Lib.AppendZeros
section

/- The statement's own Write of chains. Conditions: no more than ten, of no more than forty rules, ten subtables and four hundred bytes each. -/
namespace Go.Proofs.Ythehcbbdkiomnaa
open Go.RowKit Go.Lib

theorem run_zerosK {P : Program} (kn : IntKind) (w : World) (t tn u ty e : TypeId) (i : TypeInfo) (ht : P.underlying t = some (.slice e)) (htn : P.underlying tn = some (.int kn)) (hu : P.underlying u = some .string) (hi : P.info? e = some i) (hz : i.zero = some (.int .u8 0)) (hs1 : i.size = 1) (hby : i.bytes = 1)
    (base : Option Addr) (n c k : Nat) (hb : n + k ≤ 140737488355328) :
    (Builtin.append_ #[t, tn] ty #[.slice base n c, .int kn k]).run P w = (Builtin.append_ #[t, u] ty #[.slice base n c, .string (str (List.replicate k 0))]).run P w := by
  have hsz : (str (List.replicate k 0)).size = k := by simp [str, ByteArray.size]
  have hsc : Lib.strCells (str (List.replicate k 0)) = List.replicate k (Value.int .u8 0) := by simp [Lib.strCells, str]
  have hf : ∀ w, (Builtin.firstCells 1 k (.string (str (List.replicate k 0)))).run P w = .ok (List.replicate k (Value.int .u8 0)).toArray w := fun w => by
    have := Lib.run_firstCells_string (P := P) w 1 (str (List.replicate k 0))
    rw [hsz, hsc] at this
    exact this
  clear hsc
  generalize str (List.replicate k 0) = s at *
  have h3' : ¬ (9223372036854775807 < (n : Int)) := by omega
  have hw : IntKind.i64.wrap (k : Int) = k := by rw [IntKind.wrap_i64]; omega
  have h1 : ¬ ((k : Int) < 0) := by omega
  have h2 : ¬ (281474976710656 < (k : Int)) := by omega
  have h3 : ¬ (9223372036854775807 < ((n : Int) + (k : Int))) := by omega
  have h5 : Builtin.zeroCells (Value.int .u8 0).cells k = (List.replicate k (Value.int .u8 0)).toArray := by
    apply Array.ext'
    have e : (Value.int .u8 0).cells = #[Value.int .u8 0] := rfl
    rw [e]
    simp only [Builtin.zeroCells, Nat.mul_one, List.size_toArray, List.length_cons, List.length_nil, Nat.zero_add, Nat.mod_one]
    apply List.ext_getElem <;> simp
  have hw0 : IntKind.i64.wrap 0 = 0 := by rw [IntKind.wrap_i64]; omega
  have hfit : ¬ (n + k ≤ c) → ¬ (281474976710656 < Builtin.nextslicecap (n + k) c) := fun h => by
    have := growslice_fits (need := n + k) (old := c) (bytes := 1) (by omega) (by omega)
    omega
  by_cases hroom : n + k ≤ c
  · by_cases hk : k = 0
    · subst hk
      simp only [Nat.add_zero] at hroom
      simp [Builtin.append_, run_underlying ht, run_underlying htn, run_underlying hu, sizeOf, typeInfo, zeroValue, hi, hz, hs1, hby, Builtin.lenOf, asInt, asIntOf, hsz, hf, h3', hw0, hroom]
    · simp [Builtin.append_, run_underlying ht, run_underlying htn, run_underlying hu, sizeOf, typeInfo, zeroValue, hi, hz, hs1, hby, Builtin.lenOf, asInt, asIntOf, hw, h1, h2, h3, h5, hsz, hf, hk, hroom]
  · have hfit' := hfit hroom
    by_cases hk : k = 0
    · subst hk
      simp only [Nat.add_zero] at hroom hfit'
      simp [Builtin.append_, run_underlying ht, run_underlying htn, run_underlying hu, sizeOf, typeInfo, zeroValue, hi, hz, hs1, hby, Builtin.lenOf, asInt, asIntOf, hsz, hf, h3', hw0, hroom, hfit']
    · simp [Builtin.append_, run_underlying ht, run_underlying htn, run_underlying hu, sizeOf, typeInfo, zeroValue, hi, hz, hs1, hby, Builtin.lenOf, asInt, asIntOf, hw, h1, h2, h3, h5, hsz, hf, hk, hroom, hfit']
/-- 'append' of so many noughts onto a slice of the call's own, the number of any kind. -/
theorem wpAppZK {P : Program} {w : World} {ops : Array Oper} {rest : List Oper} {o : Oper} {a : Act} {Q : Exit → Act → World → Prop} (hgd : o.guard = none) (s x : Operand) (t tn u : TypeId) (kn : IntKind)
    (ho : o.op = .call { callee := .builtin .append, args := #[s, x], argTypes := #[t, tn] })
    (base : Nat) (e : TypeId) (ht : P.underlying t = some (.slice e)) (htn : P.underlying tn = some (.int kn)) (hu : P.underlying u = some .string) (hi : (P.info? e).map (fun i => (i.zero, i.size, i.bytes)) = some (some (.int .u8 0), 1, 1))
    (v : Value) (n : Nat) (xs : List UInt8) (hs : a.eval s = v) (hown : w.ownsRow base e 1 v n (bytesV xs)) (k : Nat) (hx : a.eval x = .int kn k) (hb : n + k ≤ 140737488355328) (hbase : base ≤ w.heap.size)
    (h' : ∀ a' c' w', w'.ownsRow base e 1 (.slice a' (n + k) c') (n + k) (bytesV (xs ++ List.replicate k 0)) → n + k ≤ c' → c' ≤ maxLen → (a' = none → c' = 0) → Below base w w' → wpList P ops Q rest (a.put o.dst (.slice a' (n + k) c')) w') : wpList P ops Q (o :: rest) a w := by
  obtain ⟨i, hi, hz, hz1, hz2⟩ := info_parts hi
  obtain ⟨a0, c0, rfl, _, _, _⟩ := owns_slice hown
  have hsz : (str (List.replicate k 0)).size = k := by simp [str, ByteArray.size]
  obtain ⟨v', w', hr, g1, g2, _⟩ := Lib.run_append_own_string (P := P) w base t u o.type e i ht hu hi hz hz1 hz2 _ n (bytesV xs) hown (str (List.replicate k 0)) (by rw [hsz]; unfold maxLen; omega) (by rw [hsz]; exact hb) hbase
  rw [← run_zerosK kn w t tn u o.type e i ht htn hu hi hz hz1 hz2 a0 n c0 k hb] at hr
  rw [hsz] at g1
  have e1 : bytesV xs ++ Lib.strCells (str (List.replicate k 0)) = bytesV (xs ++ List.replicate k 0) := by
    rw [bytesV_append, show Lib.strCells (str (List.replicate k 0)) = bytesV (str (List.replicate k 0)).data.toList from rfl]; simp [str]
  rw [e1] at g1
  obtain ⟨a', c', rfl, k1, k2, k3⟩ := owns_slice g1
  exact Lib.wpList_append_run w hgd s x t tn ho _ _ hs hx _ w' hr (h' a' c' w' g1 k1 k2 k3 ((Below.refl base w).grown g2 hbase fun k hk => (hown.lt k hk).1))
theorem putI {B : Nat} {W : World} {a : Option Addr} {n c : Nat} {xs : List UInt8} (h : W.ownsRow B 5 1 (.slice a n c) n (bytesV xs)) (hB : B ≤ W.heap.size) (v size m : Nat) (z y : Int) (hz : z = (v : Nat)) (hy : y = (size : Nat)) (hm : n + size = m) (hv : v < 9223372036854775808) (hn : n ≤ 1000000000) (hs : size ≤ 8) :
    Calls Try.prog 54 #[.slice a n c, .int .i64 z, .int .i64 y] W fun e w' => ∃ a' c', e = .returned (.slice a' m c') ∧ w'.ownsRow B 5 1 (.slice a' m c') m (bytesV (xs ++ beN size v)) ∧ Below B W w' ∧ Kept W w' := by
  subst hm
  refine (put_z B a n c v size z y hz hy xs W h hB hv hn hs).mono ?_
  rintro e w' ⟨a', c', rfl, ho, _, _, _, hb, hk, hf⟩
  exact ⟨a', c', rfl, ho, hb, hk⟩
theorem putB2 {B : Nat} {W : World} {aB aS : Option Addr} {nB cB nS cS : Nat} {xB xS : List UInt8} (h : Two B W aB nB cB xB aS nS cS xS) (hB : B ≤ W.heap.size) (v size m : Nat) (z y : Int) (hz : z = (v : Nat)) (hy : y = (size : Nat)) (hm : nB + size = m) (hv : v < 9223372036854775808) (hn : nB ≤ 1000000000) (hs : size ≤ 8) :
    Calls Try.prog 54 #[.slice aB nB cB, .int .i64 z, .int .i64 y] W fun e w' => ∃ a' c', e = .returned (.slice a' m c') ∧ Two B w' a' m c' (xB ++ beN size v) aS nS cS xS ∧ Below B W w' ∧ Kept W w' := by
  subst hm
  refine (put_z B aB nB cB v size z y hz hy xB W h.o1 hB hv hn hs).mono ?_
  rintro e w' ⟨a', c', rfl, ho, _, _, _, hb, hk, hf⟩
  exact ⟨a', c', rfl, h.put1 hf ho, hb, hk⟩
def WRel19 (w : World) (n : Nat) (ps : List LCh) (b i : Value) (wr : World) : Prop :=
  ∃ k N aB cB, k ≤ n ∧ i = .int .i64 (k : Nat) ∧ N = 8 + (chsL (ps.take k)).length ∧ b = .slice aB N cB ∧ wr.ownsRow w.heap.size 5 1 (.slice aB N cB) N (bytesV (headC n ++ chsL (ps.take k))) ∧ Below w.heap.size w wr
theorem u16_conv (t : Nat) (h : t ≤ 65535) : IntKind.i64.wrap (t : Int) = (t : Int) := IntWalk.i64_in _ (by omega)
set_option maxRecDepth 100000 in
set_option maxHeartbeats 6400000 in
theorem write19_any (la : Option Addr) (n lc : Nat) (ps : List LCh) (w : World) (h : Has w la (lchV ps)) (hl : ps.length = n) (hok : ∀ p ∈ ps, p.Ok w) (hn10 : n ≤ 10) (hfew : ∀ p ∈ ps, p.Few) :
    Calls Try.prog 26 #[.slice la n lc] w fun e w' => ∃ a' c', e = .returned (.slice a' (chsB ps).length c') ∧ w'.ownsRow w.heap.size 5 1 (.slice a' (chsB ps).length c') (chsB ps).length (bytesV (chsB ps)) ∧ (chsB ps).length ≤ c' ∧ c' ≤ maxLen ∧ (a' = none → c' = 0) ∧ Below w.heap.size w w' := by
  have hAC := allocC
  have hAF := allocF
  have HH := Lib.hid h
  have HL := Lib.hid hl
  have HOK := Lib.hid hok
  have HFW := Lib.hid hfew
  clear h hl hok hfew
  go_enter Try.func26, Try.ntmps26
  go_wp2_with fail
  refine (putI (B := w.heap.size) (a := none) (n := 0) (c := 0) (xs := []) (W := w) ⟨rfl, .inl ⟨rfl, rfl⟩⟩ (Nat.le_refl _) 2 2 2 2 2 rfl rfl rfl (by omega) (by omega) (by omega)).mono ?_
  rintro e w1 ⟨a1, c1, rfl, ho1, hb1, _⟩
  have HO1 := Lib.hid ho1
  have HB1 := Lib.hid hb1
  have hz1 := hb1.size
  clear ho1 hb1
  go_wp2_with fail
  refine (putI HO1.out hz1 0 2 4 0 2 rfl rfl rfl (by omega) (by omega) (by omega)).mono ?_
  rintro e w2 ⟨a2, c2, rfl, ho2, hb2, _⟩
  have HO2 := Lib.hid ho2
  have HB2 := Lib.hid (HB1.out.trans hb2)
  have hz2 : w.heap.size ≤ w2.heap.size := HB2.out.size
  clear ho2 hb2
  go_wp2_with fail
  refine (putI HO2.out hz2 n 4 8 (n : Int) 4 rfl rfl rfl (by omega) (by omega) (by omega)).mono ?_
  rintro e w3 ⟨a3, c3, rfl, ho3, hb3, _⟩
  have HO3 := Lib.hid (show w3.ownsRow w.heap.size 5 1 (.slice a3 8 c3) 8 (bytesV (headC n)) from by simpa [headC] using ho3)
  have HB3 := Lib.hid (HB2.out.trans hb3)
  clear ho3 hb3 HO1 HO2 HB1 HB2 hz1 hz2
  go_wp2_with fail
  go_loopw [3, 18] (WRel19 w n ps) (fun _ i _ => n - (Go.RowKit.intOf i).toNat)
  case atStart => exact ⟨0, 8, a3, c3, Nat.zero_le _, rfl, rfl, rfl, by simpa [chsL] using HO3.out, HB3.out⟩
  case round =>
    obtain ⟨k, N, aB, cB, hk, rfl, hN, rfl, ho, hb⟩ := hrel
    rename World => wr
    have HO := Lib.hid ho
    have HB := Lib.hid hb
    have HN := Lib.hid hN
    have hzr := hb.size
    have hNb : N ≤ 50000 := by
      have h1 := chsL_le (ps.take k) (fun p hp => HFW.out p (List.mem_of_mem_take hp))
      have h2 : (ps.take k).length ≤ k := by rw [List.length_take]; omega
      omega
    clear ho hb hN
    by_cases hlt : k < n
    case neg =>
      obtain rfl : n = k := by omega
      have ht : ps.take n = ps := List.take_of_length_le (Nat.le_of_eq HL.out)
      have HT := Lib.hid ht
      have dk : decide ((n : Int) < (n : Int)) = false := by simp
      clear ht
      go_wp2_with fail
      go_ret
      have hNN : (chsB ps).length = N := by rw [chsB_length, HN.out, HT.out]
      have hrow := HO.out
      rw [HT.out] at hrow
      have hsl := owns_slice hrow
      rw [hNN]
      have hx : headC n ++ chsL ps = chsB ps := by rw [chsB, HL.out]
      rw [hx] at hrow
      obtain ⟨_, _, he, k1, k2, k3⟩ := hsl
      cases he
      exact ⟨aB, cB, rfl, hrow, k1, k2, k3, HB.out⟩
    obtain ⟨p, hp⟩ : ∃ p, ps[k]? = some p := ⟨_, List.getElem?_eq_getElem (by rw [HL.out]; exact hlt)⟩
    have hpok := (HOK.out p (List.mem_of_getElem? hp)).below HB.out
    have hpfw := HFW.out p (List.mem_of_getElem? hp)
    obtain ⟨bE, oE, rfl, hbE, hcE⟩ := flat_cells (f := LCh.enc) (z := 4) (fun _ => rfl) (by decide) (HH.out.below HB.out) hp
    have e0 := hcE 0 (by decide) _ rfl
    have e1 := hcE 1 (by decide) _ rfl
    have e2 := hcE 2 (by decide) _ rfl
    have e3 := hcE 3 (by decide) _ rfl
    rw [Nat.add_zero] at e0
    have HSN := Lib.hid (show ps.take (k + 1) = ps.take k ++ [p] from by rw [List.take_add_one, hp]; rfl)
    have HPK := Lib.hid hpok
    have hm1 := hpfw.rules
    have hm2 := hpfw.subs
    have HDT := Lib.hid hpfw.data
    have hin := inB_le hpfw
    have hinl := inB_length p
    have hfi := hpok.first
    have hmo := hpok.more
    have HCH := Lib.hid (show chB p = beN 4 p.first ++ beN 4 (16 + (inB p).length) ++ beN 4 p.rules.length ++ beN 4 p.subs.length ++ inB p from rfl)
    have HIN := Lib.hid (show inB p = rusB p.rules ++ sbsB p.subs ++ List.replicate (p.more % 8) 0 from rfl)
    have HNX := Lib.hid (show 8 + (chsL (ps.take (k + 1))).length = N + (16 + (inB p).length) from by rw [HSN.out, chsL_snoc, List.length_append, chB_length, HN.out]; omega)
    have hlE := hbE
    clear hcE hp hpok hpfw
    obtain ⟨first, ar, cr, rules, sa, sc, subs, more⟩ := p
    simp only at e0 e1 e2 e3 hm1 hm2 hfi hmo HCH HIN HDT hinl
    obtain ⟨mR, hmR⟩ : ∃ m, m = rules.length := ⟨_, rfl⟩
    obtain ⟨mS, hmS⟩ : ∃ m, m = subs.length := ⟨_, rfl⟩
    rw [← hmR] at e1 hm1 hinl HCH
    rw [← hmS] at e2 hm2 HCH
    have HMR := Lib.hid hmR
    have HMS := Lib.hid hmS
    have dk : decide ((k : Int) < (n : Int)) = true := by simpa using hlt
    clear hmR hmS
    go_wp2_with fail
    obtain ⟨U, hU⟩ : ∃ U, U = wr.alloc (Obj.cells #[.int .u32 (first : Nat), .slice ar mR cr, .slice sa mS sc, .int .u8 (more : Nat)] 76) := ⟨_, rfl⟩
    have h5 : U.heap[wr.heap.size]? = some (.cells #[.int .u32 (first : Nat), .slice ar mR cr, .slice sa mS sc, .int .u8 (more : Nat)] 76 (0, 0)) := by rw [hU, heap_push, if_pos rfl]
    have hbU : Below wr.heap.size wr U := by rw [hU]; exact balloc (brefl _) _
    have HOU := Lib.hid (owns_below HO.out hbU (Nat.le_refl _))
    have HBU := Lib.hid (HB.out.trans (hbU.mono hzr))
    have HPU := Lib.hid (HPK.out.below hbU)
    have HLT := Lib.hid (show ∀ q, aB = some q → q.block < U.heap.size from fun q hq => Nat.lt_of_lt_of_le (owns_lt HO.out q hq).2 hbU.size)
    have hzU : w.heap.size ≤ U.heap.size := HBU.out.size
    rw [← hU]
    generalize wr.heap.size = g5 at *
    clear hU hbU e0 e1 e2 e3 HO HB HPK hlE
    have l5 := (Array.getElem?_eq_some_iff.1 h5).1
    have H5 := Lib.hid h5
    clear h5
    go_loopw [6, 25] (fun s i wv => ∃ (j : Nat) (aI : Option Addr) (cI : Nat), j ≤ mR ∧ i = .int .i64 (j : Nat) ∧ s = .slice aI (12 * j) cI ∧ wv.ownsRow U.heap.size 5 1 (.slice aI (12 * j) cI) (12 * j) (bytesV (rusB (rules.take j))) ∧ Below U.heap.size U wv) (fun _ i _ => mR - (Go.RowKit.intOf i).toNat)
    case atStart => exact ⟨0, none, 0, Nat.zero_le _, rfl, rfl, World.ownsRow_nil _ _ _ _, Below.refl _ _⟩
    case round =>
      obtain ⟨j, aI, cI, hj, rfl, rfl, hoI, hbv⟩ := hrel
      rename World => wv
      have HOI := Lib.hid hoI
      have HBV := Lib.hid hbv
      have hzv := hbv.size
      clear hoI
      by_cases hltj : j < mR
      · obtain ⟨r, hr⟩ : ∃ r, rules[j]? = some r := ⟨_, List.getElem?_eq_getElem (by rw [← HMR.out]; exact hltj)⟩
        obtain ⟨r1, r2, r3, r4⟩ := HPU.out.rules r (List.mem_of_getElem? hr)
        obtain ⟨bR, oR, hbR, hblR, hcR⟩ := flat_cells (f := lruV) (z := 4) (fun _ => rfl) (by decide) (HPU.out.hasR.below hbv) hr
        have c0 := hcR 0 (by decide) _ rfl
        have c1 := hcR 1 (by decide) _ rfl
        have c2 := hcR 2 (by decide) _ rfl
        have c3 := hcR 3 (by decide) _ rfl
        rw [Nat.add_zero] at c0
        have HJN := Lib.hid (show rusB (rules.take (j + 1)) = rusB (rules.take j) ++ beN 2 r.t ++ beN 2 r.v ++ beN 4 r.en ++ beN 4 r.di from by
          rw [List.take_add_one, hr]
          show rusB (_ ++ [r]) = _
          rw [rusB_snoc, ruB]
          simp only [List.append_assoc])
        simp only at hbR
        subst hbR
        have dj : decide ((j : Int) < (mR : Int)) = true := by simpa using hltj
        clear hr hcR
        obtain ⟨rt, rv, re, rd⟩ := r
        simp only at c0 c1 c2 c3 r1 r2 r3 r4 HJN
        have v1 := u16_conv rt r1
        have v2 := u16_conv rv r2
        have v3 : IntKind.i64.wrap (re : Int) = (re : Int) := IntWalk.i64_in _ (by omega)
        have v4 : IntKind.i64.wrap (rd : Int) = (rd : Int) := IntWalk.i64_in _ (by omega)
        go_wp2_with fail
        obtain ⟨X, hX⟩ : ∃ X, X = wv.alloc (Obj.cells #[.int .u16 (rt : Nat), .int .u16 (rv : Nat), .int .u32 (re : Nat), .int .u32 (rd : Nat)] 83) := ⟨_, rfl⟩
        have h8 : X.heap[wv.heap.size]? = some (.cells #[.int .u16 (rt : Nat), .int .u16 (rv : Nat), .int .u32 (re : Nat), .int .u32 (rd : Nat)] 83 (0, 0)) := by rw [hX, heap_push, if_pos rfl]
        have HOX := Lib.hid (show X.ownsRow U.heap.size 5 1 (.slice aI (12 * j) cI) (12 * j) (bytesV (rusB (rules.take j))) from by rw [hX]; exact owns_below HOI.out (balloc (brefl _) _) (Nat.le_refl _))
        have HBX := Lib.hid (show Below U.heap.size U X from by rw [hX]; exact balloc HBV.out _)
        have hzX : U.heap.size ≤ X.heap.size := HBX.out.size
        rw [← hX]
        generalize wv.heap.size = g8 at *
        clear hX c0 c1 c2 c3 HOI HBV hbv hblR
        have l8 := (Array.getElem?_eq_some_iff.1 h8).1
        have H8 := Lib.hid h8
        have HP1 := Lib.hid (fun W (hW : Below X.heap.size X W) => putI (owns_below HOX.out hW (Nat.le_refl _)) (Nat.le_trans hzX hW.size) rt 2 (12 * j + 2) (rt : Int) 2 rfl rfl rfl (by omega) (by omega) (by omega))
        refine wp_region_tree (.step 0 (.step 1 (.step 2 (.step 3 (.step 5 (.step 6 (.step 7 (.step 4 (.step 8 (.step 9 .nil)))))))))) (by kernel_rfl) (by kernel_rfl) (by kernel_rfl) (by kernel_rfl) (by intro _ _ d_ _ _ h_; cases d_ <;> first | exact h_ | (dsimp +zetaDelta only at h_ ⊢; exact h_)) (fun w' => ∃ p : KeptW X, w' = p.val) (kept_start _) ?_
        have hK0_ := fun (p : KeptW X) (o : Nat) => p.is.cell h8 (by decide) o
        (refine tree_quiet gtA (by rfl) (by rfl) (fun K_ hK_ => ?_); go_big_quiet_op; refine hK_ _ ?_; clear hK_ K_)
        (refine tree_quiet gtA (by rfl) (by rfl) (fun K_ hK_ => ?_); go_big_quiet_op; refine hK_ _ ?_; clear hK_ K_)
        (refine tree_quiet gtA (by rfl) (by rfl) (fun K_ hK_ => ?_); go_big_quiet_op; refine hK_ _ ?_; clear hK_ K_)
        (refine tree_quiet gtA (by rfl) (by rfl) (fun K_ hK_ => ?_); go_big_quiet_op; refine hK_ _ ?_; clear hK_ K_)
        (refine tree_quiet gtA (by rfl) (by rfl) (fun K_ hK_ => ?_); go_big_quiet_op; refine hK_ _ ?_; clear hK_ K_)
        (refine tree_quiet gtA (by rfl) (by rfl) (fun K_ hK_ => ?_); go_big_quiet_op; refine hK_ _ ?_; clear hK_ K_)
        (refine tree_quiet gtA (by rfl) (by rfl) (fun K_ hK_ => ?_); go_big_quiet_op; refine hK_ _ ?_; clear hK_ K_)
        (refine tree_run gtA (by rfl) (by rfl) (fun K_ hK_ => ?_); have HK_ := Lib.hid hK_; clear hK_; go_wp2_with (first | (go_at_call 54; (with_reducible refine (HP1.out _ (by exact blw)).mono ?_); rintro e x1 ⟨a4, c4, rfl, ht4, hb4, hk4⟩; have HT4 := Lib.hid ht4; have HB4 := Lib.hid hb4; have hz4 : U.heap.size ≤ x1.heap.size := Nat.le_trans hzX hb4.size; have HP2 := Lib.hid (fun W (hW : Below x1.heap.size x1 W) => putI (owns_below HT4.out hW (Nat.le_refl _)) (Nat.le_trans hz4 hW.size) rv 2 (12 * j + 4) (rv : Int) 2 rfl rfl (by omega) (by omega) (by omega) (by omega)); clear ht4 hb4) | (go_at_call 54; (with_reducible refine (HP2.out _ (by exact blw)).mono ?_); rintro e x2 ⟨a5, c5, rfl, ht5, hb5, hk5⟩; have HT5 := Lib.hid ht5; have HB5 := Lib.hid hb5; clear ht5 hb5)); refine HK_.out _ _ (kept_of (by repeat (first | exact Kept.refl _ | assumption | refine Kept.trans ?_ (Kept.below (bdrew1 (brefl _))) | refine Kept.trans ?_ (Kept.below (balloc (brefl _) _)) | refine Kept.trans ?_ (by assumption)))) ?_; clear HK_)
        (refine tree_run gtA (by rfl) (by rfl) (fun K_ hK_ => ?_); have HK_ := Lib.hid hK_; clear hK_; go_wp2_with (first | (go_at_call 54; (with_reducible refine (HP1.out _ (by exact blw)).mono ?_); rintro e x1 ⟨a4, c4, rfl, ht4, hb4, hk4⟩; have HT4 := Lib.hid ht4; have HB4 := Lib.hid hb4; have hz4 : U.heap.size ≤ x1.heap.size := Nat.le_trans hzX hb4.size; have HP2 := Lib.hid (fun W (hW : Below x1.heap.size x1 W) => putI (owns_below HT4.out hW (Nat.le_refl _)) (Nat.le_trans hz4 hW.size) rv 2 (12 * j + 4) (rv : Int) 2 rfl rfl (by omega) (by omega) (by omega) (by omega)); clear ht4 hb4) | (go_at_call 54; (with_reducible refine (HP2.out _ (by exact blw)).mono ?_); rintro e x2 ⟨a5, c5, rfl, ht5, hb5, hk5⟩; have HT5 := Lib.hid ht5; have HB5 := Lib.hid hb5; clear ht5 hb5)); refine HK_.out _ _ (kept_of (by repeat (first | exact Kept.refl _ | assumption | refine Kept.trans ?_ (Kept.below (bdrew1 (brefl _))) | refine Kept.trans ?_ (Kept.below (balloc (brefl _) _)) | refine Kept.trans ?_ (by assumption)))) ?_; clear HK_)
        (refine tree_quiet gtA (by rfl) (by rfl) (fun K_ hK_ => ?_); go_big_quiet_op; refine hK_ _ ?_; clear hK_ K_)
        refine tree_nil ?_
        clear hK0_
        have h82 := ((hk4.trans hk5).2 g8 _ _ _ (show X.drew.heap[g8]? = _ from H8.out) (by decide)).trans H8.out
        have HB2w := Lib.hid (HBX.out.drew.trans (HB4.out.trans HB5.out))
        have hz5 : U.heap.size ≤ x2.heap.size := HB2w.out.size
        clear hk4 hk5 HT4 HB4 HB5 HP1 HP2 h8 l8 HBX HOX hzX H8
        have l8 := (Array.getElem?_eq_some_iff.1 h82).1
        have H8 := Lib.hid h82
        have HP1 := Lib.hid (fun W (hW : Below x2.heap.size x2 W) => putI (owns_below HT5.out hW (Nat.le_refl _)) (Nat.le_trans hz5 hW.size) re 4 (12 * j + 8) (re : Int) 4 rfl rfl (by omega) (by omega) (by omega) (by omega))
        go_wp2_with fail
        refine wp_region_tree (.step 0 (.step 1 (.step 2 (.step 3 (.step 5 (.step 6 (.step 7 (.step 4 (.step 8 (.step 9 .nil)))))))))) (by kernel_rfl) (by kernel_rfl) (by kernel_rfl) (by kernel_rfl) (by intro _ _ d_ _ _ h_; cases d_ <;> first | exact h_ | (dsimp +zetaDelta only at h_ ⊢; exact h_)) (fun w' => ∃ p : KeptW x2, w' = p.val) (kept_start _) ?_
        have hK0_ := fun (p : KeptW x2) (o : Nat) => p.is.cell h82 (by decide) o
        (refine tree_quiet gtA (by rfl) (by rfl) (fun K_ hK_ => ?_); go_big_quiet_op; refine hK_ _ ?_; clear hK_ K_)
        (refine tree_quiet gtA (by rfl) (by rfl) (fun K_ hK_ => ?_); go_big_quiet_op; refine hK_ _ ?_; clear hK_ K_)
        (refine tree_quiet gtA (by rfl) (by rfl) (fun K_ hK_ => ?_); go_big_quiet_op; refine hK_ _ ?_; clear hK_ K_)
        (refine tree_quiet gtA (by rfl) (by rfl) (fun K_ hK_ => ?_); go_big_quiet_op; refine hK_ _ ?_; clear hK_ K_)
        (refine tree_quiet gtA (by rfl) (by rfl) (fun K_ hK_ => ?_); go_big_quiet_op; refine hK_ _ ?_; clear hK_ K_)
        (refine tree_quiet gtA (by rfl) (by rfl) (fun K_ hK_ => ?_); go_big_quiet_op; refine hK_ _ ?_; clear hK_ K_)
        (refine tree_quiet gtA (by rfl) (by rfl) (fun K_ hK_ => ?_); go_big_quiet_op; refine hK_ _ ?_; clear hK_ K_)
        (refine tree_run gtA (by rfl) (by rfl) (fun K_ hK_ => ?_); have HK_ := Lib.hid hK_; clear hK_; go_wp2_with (first | (go_at_call 54; (with_reducible refine (HP1.out _ (by exact blw)).mono ?_); rintro e x3 ⟨a6, c6, rfl, ht6, hb6, hk6⟩; have HT6 := Lib.hid ht6; have HB6 := Lib.hid hb6; have hz6 : U.heap.size ≤ x3.heap.size := Nat.le_trans hz5 hb6.size; have HP2 := Lib.hid (fun W (hW : Below x3.heap.size x3 W) => putI (owns_below HT6.out hW (Nat.le_refl _)) (Nat.le_trans hz6 hW.size) rd 4 (12 * (j + 1)) (rd : Int) 4 rfl rfl (by omega) (by omega) (by omega) (by omega)); clear ht6 hb6) | (go_at_call 54; (with_reducible refine (HP2.out _ (by exact blw)).mono ?_); rintro e x4 ⟨a7, c7, rfl, ht7, hb7, hk7⟩; have HT7 := Lib.hid ht7; have HB7 := Lib.hid hb7; clear ht7 hb7)); refine HK_.out _ _ (kept_of (by repeat (first | exact Kept.refl _ | assumption | refine Kept.trans ?_ (Kept.below (bdrew1 (brefl _))) | refine Kept.trans ?_ (Kept.below (balloc (brefl _) _)) | refine Kept.trans ?_ (by assumption)))) ?_; clear HK_)
        (refine tree_run gtA (by rfl) (by rfl) (fun K_ hK_ => ?_); have HK_ := Lib.hid hK_; clear hK_; go_wp2_with (first | (go_at_call 54; (with_reducible refine (HP1.out _ (by exact blw)).mono ?_); rintro e x3 ⟨a6, c6, rfl, ht6, hb6, hk6⟩; have HT6 := Lib.hid ht6; have HB6 := Lib.hid hb6; have hz6 : U.heap.size ≤ x3.heap.size := Nat.le_trans hz5 hb6.size; have HP2 := Lib.hid (fun W (hW : Below x3.heap.size x3 W) => putI (owns_below HT6.out hW (Nat.le_refl _)) (Nat.le_trans hz6 hW.size) rd 4 (12 * (j + 1)) (rd : Int) 4 rfl rfl (by omega) (by omega) (by omega) (by omega)); clear ht6 hb6) | (go_at_call 54; (with_reducible refine (HP2.out _ (by exact blw)).mono ?_); rintro e x4 ⟨a7, c7, rfl, ht7, hb7, hk7⟩; have HT7 := Lib.hid ht7; have HB7 := Lib.hid hb7; clear ht7 hb7)); refine HK_.out _ _ (kept_of (by repeat (first | exact Kept.refl _ | assumption | refine Kept.trans ?_ (Kept.below (bdrew1 (brefl _))) | refine Kept.trans ?_ (Kept.below (balloc (brefl _) _)) | refine Kept.trans ?_ (by assumption)))) ?_; clear HK_)
        (refine tree_quiet gtA (by rfl) (by rfl) (fun K_ hK_ => ?_); go_big_quiet_op; refine hK_ _ ?_; clear hK_ K_)
        refine tree_nil ?_
        clear hK0_
        have HBN := Lib.hid (HB2w.out.drew.trans (HB6.out.trans HB7.out))
        have hbn := HT7.out
        rw [← HJN.out] at hbn
        have HON := Lib.hid hbn
        clear hbn
        go_wp2_with fail
        go_roundw
        case rel => exact ⟨j + 1, a7, c7, hltj, by go_num, rfl, HON.out, HBN.out⟩
        case measure => simp [Go.RowKit.intOf]; omega
      · obtain rfl : mR = j := by omega
        have dj : decide ((mR : Int) < (mR : Int)) = false := by simp
        have HT := Lib.hid (show rules.take mR = rules from List.take_of_length_le (Nat.le_of_eq HMR.out.symm))
        have h5 := (hbv.block g5 l5).trans H5.out
        have q5 := fun o => cell_of_heap h5 o
        have l5v := (Array.getElem?_eq_some_iff.1 h5).1
        clear hltj hj
        go_wp2_with fail
        go_loopw [6, 51] (fun s i wu => ∃ (j N2 : Nat) (aT : Option Addr) (cT : Nat), j ≤ mS ∧ i = .int .i64 (j : Nat) ∧ N2 = 12 * mR + (sbsB (subs.take j)).length ∧ s = .slice aT N2 cT ∧ wu.ownsRow U.heap.size 5 1 (.slice aT N2 cT) N2 (bytesV (rusB rules ++ sbsB (subs.take j))) ∧ Below U.heap.size U wu) (fun _ i _ => mS - (Go.RowKit.intOf i).toNat)
        case atStart => exact ⟨0, 12 * mR, aI, cI, Nat.zero_le _, rfl, rfl, rfl, by have := HOI.out; rw [HT.out] at this; simpa [sbsB] using this, HBV.out⟩
        clear h5 q5 l5v HOI HBV hbv hzv
        case round =>
          obtain ⟨j, N2, aT, cT, hj, rfl, hN2, rfl, hoI, hbv⟩ := hrel
          rename World => wu
          have HOI := Lib.hid hoI
          have HBV := Lib.hid hbv
          have HN2 := Lib.hid hN2
          have hzu := hbv.size
          have hN2b : N2 ≤ 5000 := by
            have h1 := sbsB_le (subs.take j) (fun s hs => HDT.out s (List.mem_of_mem_take hs))
            have h2 : (subs.take j).length ≤ j := by rw [List.length_take]; omega
            omega
          clear hoI hN2
          by_cases hltj : j < mS
          · obtain ⟨s, hs⟩ : ∃ s, subs[j]? = some s := ⟨_, List.getElem?_eq_getElem (by rw [← HMS.out]; exact hltj)⟩
            obtain ⟨s1, s2, s3, s4⟩ := HPU.out.subs s (List.mem_of_getElem? hs)
            have s5 := HDT.out s (List.mem_of_getElem? hs)
            obtain ⟨bS, oS, hbS, hblS, hcS⟩ := flat_cells (f := LSub.enc) (z := 3) (fun _ => rfl) (by decide) (HPU.out.hasS.below hbv) hs
            have c0 := hcS 0 (by decide) _ rfl
            have c1 := hcS 1 (by decide) _ rfl
            have c2 := hcS 2 (by decide) _ rfl
            rw [Nat.add_zero] at c0
            have HJN := Lib.hid (show rusB rules ++ sbsB (subs.take (j + 1)) = rusB rules ++ sbsB (subs.take j) ++ beN 4 (12 + s.bs.length) ++ beN 4 s.co ++ beN 4 s.fl ++ s.bs from by
              rw [List.take_add_one, hs]
              show _ ++ sbsB (_ ++ [s]) = _
              rw [sbsB_snoc, sbB]
              simp only [List.append_assoc])
            have HNN := Lib.hid (show 12 * mR + (sbsB (subs.take (j + 1))).length = N2 + 12 + s.bs.length from by
              rw [List.take_add_one, hs]
              show _ + (sbsB (_ ++ [s])).length = _
              rw [sbsB_snoc, List.length_append, sbB_length, HN2.out]
              omega)
            simp only at hbS
            subst hbS
            have dj : decide ((j : Int) < (mS : Int)) = true := by simpa using hltj
            have HDU := Lib.hid (fun (W : World) (hW : Below U.heap.size U W) => show Has W s.a (bytesV s.bs) from s3.below hW)
            have HS4 := Lib.hid s4
            clear hs hcS s3 s4
            obtain ⟨co, fl, sda, sdc, sbs⟩ := s
            simp only at c0 c1 c2 s1 s2 s5 HJN HNN HDU HS4
            obtain ⟨mD, hmD⟩ : ∃ m, m = sbs.length := ⟨_, rfl⟩
            rw [← hmD] at c2 s5 HJN HNN
            have HMD := Lib.hid hmD
            clear hmD
            have v1 : IntKind.i64.wrap (12 + (mD : Int)) = 12 + (mD : Int) := IntWalk.i64_in _ (by omega)
            have v2 : IntKind.i64.wrap (co : Int) = (co : Int) := IntWalk.i64_in _ (by omega)
            have v3 : IntKind.i64.wrap (fl : Int) = (fl : Int) := IntWalk.i64_in _ (by omega)
            go_wp2_with fail
            obtain ⟨X, hX⟩ : ∃ X, X = wu.alloc (Obj.cells #[.int .u32 (co : Nat), .int .u32 (fl : Nat), .slice sda mD sdc] 87) := ⟨_, rfl⟩
            have h8 : X.heap[wu.heap.size]? = some (.cells #[.int .u32 (co : Nat), .int .u32 (fl : Nat), .slice sda mD sdc] 87 (0, 0)) := by rw [hX, heap_push, if_pos rfl]
            have HOX := Lib.hid (show X.ownsRow U.heap.size 5 1 (.slice aT N2 cT) N2 (bytesV (rusB rules ++ sbsB (subs.take j))) from by rw [hX]; exact owns_below HOI.out (balloc (brefl _) _) (Nat.le_refl _))
            have HBX := Lib.hid (show Below U.heap.size U X from by rw [hX]; exact balloc HBV.out _)
            have hzX : U.heap.size ≤ X.heap.size := HBX.out.size
            rw [← hX]
            generalize wu.heap.size = g8 at *
            clear hX c0 c1 c2 HOI HBV hbv hblS
            have l8 := (Array.getElem?_eq_some_iff.1 h8).1
            have H8 := Lib.hid h8
            have HP1 := Lib.hid (fun W (hW : Below X.heap.size X W) => putI (owns_below HOX.out hW (Nat.le_refl _)) (Nat.le_trans hzX hW.size) (12 + mD) 4 (N2 + 4) (12 + (mD : Int)) 4 (by omega) rfl rfl (by omega) (by omega) (by omega))
            refine wp_region_tree (.step 0 (.step 1 (.step 2 (.step 3 (.step 4 (.step 6 (.step 7 (.step 8 (.step 5 (.step 9 (.step 10 .nil))))))))))) (by kernel_rfl) (by kernel_rfl) (by kernel_rfl) (by kernel_rfl) (by intro _ _ d_ _ _ h_; cases d_ <;> first | exact h_ | (dsimp +zetaDelta only at h_ ⊢; exact h_)) (fun w' => ∃ p : KeptW X, w' = p.val) (kept_start _) ?_
            have hK0_ := fun (p : KeptW X) (o : Nat) => p.is.cell h8 (by decide) o
            (refine tree_quiet gtA (by rfl) (by rfl) (fun K_ hK_ => ?_); go_big_quiet_op; refine hK_ _ ?_; clear hK_ K_)
            (refine tree_quiet gtA (by rfl) (by rfl) (fun K_ hK_ => ?_); go_big_quiet_op; refine hK_ _ ?_; clear hK_ K_)
            (refine tree_quiet gtA (by rfl) (by rfl) (fun K_ hK_ => ?_); go_big_quiet_op; refine hK_ _ ?_; clear hK_ K_)
            (refine tree_quiet gtA (by rfl) (by rfl) (fun K_ hK_ => ?_); go_big_quiet_op; refine hK_ _ ?_; clear hK_ K_)
            (refine tree_quiet gtA (by rfl) (by rfl) (fun K_ hK_ => ?_); go_big_quiet_op; refine hK_ _ ?_; clear hK_ K_)
            (refine tree_quiet gtA (by rfl) (by rfl) (fun K_ hK_ => ?_); go_big_quiet_op; refine hK_ _ ?_; clear hK_ K_)
            (refine tree_quiet gtA (by rfl) (by rfl) (fun K_ hK_ => ?_); go_big_quiet_op; refine hK_ _ ?_; clear hK_ K_)
            (refine tree_quiet gtA (by rfl) (by rfl) (fun K_ hK_ => ?_); go_big_quiet_op; refine hK_ _ ?_; clear hK_ K_)
            (refine tree_run gtA (by rfl) (by rfl) (fun K_ hK_ => ?_); have HK_ := Lib.hid hK_; clear hK_; go_wp2_with (first | (go_at_call 54; (with_reducible refine (HP1.out _ (by exact blw)).mono ?_); rintro e x1 ⟨a4, c4, rfl, ht4, hb4, hk4⟩; have HT4 := Lib.hid ht4; have HB4 := Lib.hid hb4; have hz4 : U.heap.size ≤ x1.heap.size := Nat.le_trans hzX hb4.size; have HP2 := Lib.hid (fun W (hW : Below x1.heap.size x1 W) => putI (owns_below HT4.out hW (Nat.le_refl _)) (Nat.le_trans hz4 hW.size) co 4 (N2 + 8) (co : Int) 4 rfl rfl (by omega) (by omega) (by omega) (by omega)); clear ht4 hb4) | (go_at_call 54; (with_reducible refine (HP2.out _ (by exact blw)).mono ?_); rintro e x2 ⟨a5, c5, rfl, ht5, hb5, hk5⟩; have HT5 := Lib.hid ht5; have HB5 := Lib.hid hb5; clear ht5 hb5)); refine HK_.out _ _ (kept_of (by repeat (first | exact Kept.refl _ | assumption | refine Kept.trans ?_ (Kept.below (bdrew1 (brefl _))) | refine Kept.trans ?_ (Kept.below (balloc (brefl _) _)) | refine Kept.trans ?_ (by assumption)))) ?_; clear HK_)
            (refine tree_run gtA (by rfl) (by rfl) (fun K_ hK_ => ?_); have HK_ := Lib.hid hK_; clear hK_; go_wp2_with (first | (go_at_call 54; (with_reducible refine (HP1.out _ (by exact blw)).mono ?_); rintro e x1 ⟨a4, c4, rfl, ht4, hb4, hk4⟩; have HT4 := Lib.hid ht4; have HB4 := Lib.hid hb4; have hz4 : U.heap.size ≤ x1.heap.size := Nat.le_trans hzX hb4.size; have HP2 := Lib.hid (fun W (hW : Below x1.heap.size x1 W) => putI (owns_below HT4.out hW (Nat.le_refl _)) (Nat.le_trans hz4 hW.size) co 4 (N2 + 8) (co : Int) 4 rfl rfl (by omega) (by omega) (by omega) (by omega)); clear ht4 hb4) | (go_at_call 54; (with_reducible refine (HP2.out _ (by exact blw)).mono ?_); rintro e x2 ⟨a5, c5, rfl, ht5, hb5, hk5⟩; have HT5 := Lib.hid ht5; have HB5 := Lib.hid hb5; clear ht5 hb5)); refine HK_.out _ _ (kept_of (by repeat (first | exact Kept.refl _ | assumption | refine Kept.trans ?_ (Kept.below (bdrew1 (brefl _))) | refine Kept.trans ?_ (Kept.below (balloc (brefl _) _)) | refine Kept.trans ?_ (by assumption)))) ?_; clear HK_)
            (refine tree_quiet gtA (by rfl) (by rfl) (fun K_ hK_ => ?_); go_big_quiet_op; refine hK_ _ ?_; clear hK_ K_)
            refine tree_nil ?_
            clear hK0_
            have h82 := ((hk4.trans hk5).2 g8 _ _ _ (show X.drew.heap[g8]? = _ from H8.out) (by decide)).trans H8.out
            have HB2w := Lib.hid (HBX.out.drew.trans (HB4.out.trans HB5.out))
            have hz5 : U.heap.size ≤ x2.heap.size := HB2w.out.size
            clear hk4 hk5 HT4 HB4 HB5 HP1 HP2 h8 l8 HBX HOX hzX H8
            have l8 := (Array.getElem?_eq_some_iff.1 h82).1
            have H8 := Lib.hid h82
            have HDX := Lib.hid (fun W (hW : Below U.heap.size U W) => HDU.out W hW)
            have HP1 := Lib.hid (fun W (hW : Below x2.heap.size x2 W) => putI (owns_below HT5.out hW (Nat.le_refl _)) (Nat.le_trans hz5 hW.size) fl 4 (N2 + 12) (fl : Int) 4 rfl rfl (by omega) (by omega) (by omega) (by omega))
            go_wp2_with fail
            refine wp_region_tree (.step 0 (.step 1 (.step 2 (.step 3 (.step 5 (.step 6 (.step 4 (.step 7 (.step 8 .nil))))))))) (by kernel_rfl) (by kernel_rfl) (by kernel_rfl) (by kernel_rfl) (by intro _ _ d_ _ _ h_; cases d_ <;> first | exact h_ | (dsimp +zetaDelta only at h_ ⊢; exact h_)) (fun w' => ∃ p : KeptW x2, w' = p.val) (kept_start _) ?_
            have hK0_ := fun (p : KeptW x2) (o : Nat) => p.is.cell h82 (by decide) o
            (refine tree_quiet gtA (by rfl) (by rfl) (fun K_ hK_ => ?_); go_big_quiet_op; refine hK_ _ ?_; clear hK_ K_)
            (refine tree_quiet gtA (by rfl) (by rfl) (fun K_ hK_ => ?_); go_big_quiet_op; refine hK_ _ ?_; clear hK_ K_)
            (refine tree_quiet gtA (by rfl) (by rfl) (fun K_ hK_ => ?_); go_big_quiet_op; refine hK_ _ ?_; clear hK_ K_)
            (refine tree_quiet gtA (by rfl) (by rfl) (fun K_ hK_ => ?_); go_big_quiet_op; refine hK_ _ ?_; clear hK_ K_)
            (refine tree_quiet gtA (by rfl) (by rfl) (fun K_ hK_ => ?_); go_big_quiet_op; refine hK_ _ ?_; clear hK_ K_)
            (refine tree_quiet gtA (by rfl) (by rfl) (fun K_ hK_ => ?_); go_big_quiet_op; refine hK_ _ ?_; clear hK_ K_)
            (refine tree_run gtA (by rfl) (by rfl) (fun K_ hK_ => ?_); have HK_ := Lib.hid hK_; clear hK_; (first | (((refine wpAppA _ _ 22 rfl U.heap.size 5 (.int .u8 0) 1 1 Try.underlying22 u8_info rfl (by decide) _ (N2 + 12) _ rfl HT6.out sda mD sdc (bytesV sbs) rfl (by rw [bytesV_length, HMD.out, Nat.mul_one]) (HD6.out) HS4.out (bytesV_one _) (by unfold maxLen; omega) (by omega) (by first | omega | (simp; omega)) ?_); intro a9 c9 x4 hown9 hb9 hg9; have hk9 : Kept x3 x4 := Kept.grown HT6.out hg9; have HO9 := Lib.hid hown9; have HB9 := Lib.hid hb9; clear hown9 hb9 hg9; (try dsimp only [Act.put]); (try simp only [List.setIfInBounds_toArray, List.set_cons_succ, List.set_cons_zero]))) | (go_wp2_with (first | (go_at_call 54; (with_reducible refine (HP1.out _ (by exact blw)).mono ?_); rintro e x3 ⟨a6, c6, rfl, ht6, hb6, hk6⟩; have HT6 := Lib.hid ht6; have HB6 := Lib.hid hb6; have hz6 : U.heap.size ≤ x3.heap.size := Nat.le_trans hz5 hb6.size; have HD6 := Lib.hid (show Has x3 sda (bytesV sbs) from HDX.out _ (HB2w.out.drew.trans hb6)); clear ht6 hb6)))); refine HK_.out _ _ (kept_of (by repeat (first | exact Kept.refl _ | assumption | refine Kept.trans ?_ (Kept.below (bdrew1 (brefl _))) | refine Kept.trans ?_ (Kept.below (balloc (brefl _) _)) | refine Kept.trans ?_ (by assumption)))) ?_; clear HK_)
            (refine tree_run gtA (by rfl) (by rfl) (fun K_ hK_ => ?_); have HK_ := Lib.hid hK_; clear hK_; (first | (((refine wpAppA _ _ 22 rfl U.heap.size 5 (.int .u8 0) 1 1 Try.underlying22 u8_info rfl (by decide) _ (N2 + 12) _ rfl HT6.out sda mD sdc (bytesV sbs) rfl (by rw [bytesV_length, HMD.out, Nat.mul_one]) (HD6.out) HS4.out (bytesV_one _) (by unfold maxLen; omega) (by omega) (by first | omega | (simp; omega)) ?_); intro a9 c9 x4 hown9 hb9 hg9; have hk9 : Kept x3 x4 := Kept.grown HT6.out hg9; have HO9 := Lib.hid hown9; have HB9 := Lib.hid hb9; clear hown9 hb9 hg9; (try dsimp only [Act.put]); (try simp only [List.setIfInBounds_toArray, List.set_cons_succ, List.set_cons_zero]))) | (go_wp2_with (first | (go_at_call 54; (with_reducible refine (HP1.out _ (by exact blw)).mono ?_); rintro e x3 ⟨a6, c6, rfl, ht6, hb6, hk6⟩; have HT6 := Lib.hid ht6; have HB6 := Lib.hid hb6; have hz6 : U.heap.size ≤ x3.heap.size := Nat.le_trans hz5 hb6.size; have HD6 := Lib.hid (show Has x3 sda (bytesV sbs) from HDX.out _ (HB2w.out.drew.trans hb6)); clear ht6 hb6)))); refine HK_.out _ _ (kept_of (by repeat (first | exact Kept.refl _ | assumption | refine Kept.trans ?_ (Kept.below (bdrew1 (brefl _))) | refine Kept.trans ?_ (Kept.below (balloc (brefl _) _)) | refine Kept.trans ?_ (by assumption)))) ?_; clear HK_)
            (refine tree_quiet gtA (by rfl) (by rfl) (fun K_ hK_ => ?_); go_big_quiet_op; refine hK_ _ ?_; clear hK_ K_)
            refine tree_nil ?_
            clear hK0_
            have HBN := Lib.hid (HB2w.out.drew.trans (HB6.out.trans HB9.out))
            have hbn := HO9.out
            rw [← bytesV_append, ← HJN.out] at hbn
            have HON := Lib.hid hbn
            clear hbn hk6 hk9
            go_wp2_with fail
            go_roundw
            case rel => exact ⟨j + 1, N2 + 12 + mD, a9, c9, hltj, by go_num, HNN.out.symm, rfl, HON.out, HBN.out⟩
            case measure => simp [Go.RowKit.intOf]; omega
          · obtain rfl : mS = j := by omega
            have dj : decide ((mS : Int) < (mS : Int)) = false := by simp
            have HTS := Lib.hid (show subs.take mS = subs from List.take_of_length_le (Nat.le_of_eq HMS.out.symm))
            have h5 := (hbv.block g5 l5).trans H5.out
            have HV5 := Lib.hid h5
            have q5 := fun o => cell_of_heap h5 o
            have l5u := (Array.getElem?_eq_some_iff.1 h5).1
            have m8 : (more : Int).tmod 8 = ((more % 8 : Nat) : Int) := by rw [Int.tmod_eq_emod_of_nonneg (by omega)]; omega
            have m8w : IntKind.u8.wrap ((more % 8 : Nat) : Int) = ((more % 8 : Nat) : Int) := by
              simp only [IntKind.wrap, IntKind.bits, IntKind.signed]
              simp
              omega
            obtain ⟨Z, hZ⟩ : ∃ Z, Z = more % 8 := ⟨_, rfl⟩
            have hZ8 : Z < 8 := by omega
            rw [← hZ] at m8 m8w hinl HIN
            have hNI : N2 + Z = (inB ⟨first, ar, cr, rules, sa, sc, subs, more⟩).length := by have := HN2.out; rw [HTS.out] at this; omega
            obtain ⟨IB, hIB⟩ : ∃ IB, IB = inB ⟨first, ar, cr, rules, sa, sc, subs, more⟩ := ⟨_, rfl⟩
            have HIBD := Lib.hid hIB
            have HIBE := Lib.hid (show IB = rusB rules ++ sbsB (subs.take mS) ++ List.replicate Z 0 from by rw [hIB, HIN.out, HTS.out])
            obtain ⟨NI, hNe⟩ : ∃ NI, N2 + Z = NI := ⟨_, rfl⟩
            have HIL := Lib.hid (show IB.length = NI from by rw [hIB, ← hNI, hNe])
            have HNE2 := Lib.hid hNe
            have hNI5 : NI ≤ 5010 := by omega
            have vf : IntKind.i64.wrap (first : Int) = (first : Int) := IntWalk.i64_in _ (by omega)
            clear hltj hj h5 hZ hNI hIB hNe
            go_wp2_with (at_builtin; refine wpAppZK rfl _ _ 22 5 9 .u8 rfl U.heap.size 5 Try.underlying22 Try.underlying5 Try.underlying9 u8_info _ N2 _ rfl HOI.out Z rfl (by omega) (by omega) ?_; intro aZ cZ wz hownz kz1 kz2 kz3 hbz; rw [HNE2.out] at hownz; have HOZ := Lib.hid hownz; have HBZ := Lib.hid (HBV.out.trans hbz); have h5z := (HBZ.out.block g5 l5).trans H5.out; have q5z := fun o => cell_of_heap h5z o; have l5z := (Array.getElem?_eq_some_iff.1 h5z).1; have KZ3 := Lib.hid kz3; clear hownz kz1 kz2 kz3 hbz; (try dsimp only [Act.put]); (try simp only [List.setIfInBounds_toArray, List.set_cons_succ, List.set_cons_zero]); rw [HNE2.out])
            have HTW := Lib.hid (show Two w.heap.size wz aB N cB (headC n ++ chsL (ps.take k)) aZ NI cZ IB from ⟨owns_below HOU.out HBZ.out (Nat.le_refl _), by rw [HIBE.out]; exact owns_mono HOZ.out hzU, fun p q hp hq he => by
              have h1 := HLT.out p hp
              have h2 := (owns_lt HOZ.out q hq).1
              omega⟩)
            have HBW := Lib.hid (HBU.out.trans (HBZ.out.mono hzU))
            have hzz : w.heap.size ≤ wz.heap.size := HBW.out.size
            have H5Z := Lib.hid h5z
            clear q5 l5u h5z HOZ HBZ HOI HBV hbv hzu
            refine (putB2 HTW.out hzz first 4 (N + 4) (first : Int) 4 rfl rfl rfl (by omega) (by omega) (by omega)).mono ?_
            rintro e x1 ⟨a4, c4, rfl, ht4, hb4, hk4⟩
            have HT4 := Lib.hid ht4
            have HB4 := Lib.hid (HBW.out.trans hb4)
            have hz4 : w.heap.size ≤ x1.heap.size := HB4.out.size
            have h51 := (hk4.2 g5 _ _ _ H5Z.out (by decide)).trans H5Z.out
            have H51 := Lib.hid h51
            have v16 : IntKind.i64.wrap (16 + (NI : Int)) = 16 + (NI : Int) := IntWalk.i64_in _ (by omega)
            clear ht4 hb4 hk4 h51 HTW HBW q5z l5z
            go_wp2_with fail
            refine (putB2 HT4.out hz4 (16 + NI) 4 (N + 8) (16 + (NI : Int)) 4 (by omega) rfl rfl (by omega) (by omega) (by omega)).mono ?_
            rintro e x2 ⟨a5, c5, rfl, ht5, hb5, hk5⟩
            have HT5 := Lib.hid ht5
            have HB5 := Lib.hid (HB4.out.trans hb5)
            have hz5 : w.heap.size ≤ x2.heap.size := HB5.out.size
            have h52 := (hk5.2 g5 _ _ _ H51.out (by decide)).trans H51.out
            have l52 := (Array.getElem?_eq_some_iff.1 h52).1
            clear ht5 hb5 hk5 HT4 HB4 v16
            have HP1 := Lib.hid (fun W (hW : Below x2.heap.size x2 W) => putB2 (HT5.out.below hW) (Nat.le_trans hz5 hW.size) mR 4 (N + 12) (mR : Int) 4 rfl rfl (by omega) (by omega) (by omega) (by omega))
            go_wp2_with fail
            refine wp_region_tree (.step 0 (.step 1 (.step 2 (.step 3 (.step 5 (.step 6 (.step 7 (.step 9 (.step 4 (.step 8 (.step 10 (.step 11 .nil)))))))))))) (by kernel_rfl) (by kernel_rfl) (by kernel_rfl) (by kernel_rfl) (by intro _ _ d_ _ _ h_; cases d_ <;> first | exact h_ | (dsimp +zetaDelta only at h_ ⊢; exact h_)) (fun w' => ∃ p : KeptW x2, w' = p.val) (kept_start _) ?_
            have hK0_ := fun (p : KeptW x2) (o : Nat) => p.is.cell h52 (by decide) o
            (refine tree_quiet gtA (by rfl) (by rfl) (fun K_ hK_ => ?_); go_big_quiet_op; refine hK_ _ ?_; clear hK_ K_)
            (refine tree_quiet gtA (by rfl) (by rfl) (fun K_ hK_ => ?_); go_big_quiet_op; refine hK_ _ ?_; clear hK_ K_)
            (refine tree_quiet gtA (by rfl) (by rfl) (fun K_ hK_ => ?_); go_big_quiet_op; refine hK_ _ ?_; clear hK_ K_)
            (refine tree_quiet gtA (by rfl) (by rfl) (fun K_ hK_ => ?_); go_big_quiet_op; refine hK_ _ ?_; clear hK_ K_)
            (refine tree_quiet gtA (by rfl) (by rfl) (fun K_ hK_ => ?_); go_big_quiet_op; refine hK_ _ ?_; clear hK_ K_)
            (refine tree_quiet gtA (by rfl) (by rfl) (fun K_ hK_ => ?_); go_big_quiet_op; refine hK_ _ ?_; clear hK_ K_)
            (refine tree_quiet gtA (by rfl) (by rfl) (fun K_ hK_ => ?_); go_big_quiet_op; refine hK_ _ ?_; clear hK_ K_)
            (refine tree_quiet gtA (by rfl) (by rfl) (fun K_ hK_ => ?_); go_big_quiet_op; refine hK_ _ ?_; clear hK_ K_)
            (refine tree_run gtA (by rfl) (by rfl) (fun K_ hK_ => ?_); have HK_ := Lib.hid hK_; clear hK_; (first | (((refine wpAppA _ _ 22 rfl w.heap.size 5 (.int .u8 0) 1 1 Try.underlying22 u8_info rfl (by decide) _ (N + 16) _ rfl HT7.out.o1 aZ NI cZ (bytesV IB) rfl (by rw [bytesV_length, HIL.out, Nat.mul_one]) (has_of_owns HT7.out.o2) KZ3.out (bytesV_one _) (by unfold maxLen; omega) (by omega) (by first | omega | (simp; omega)) ?_); intro a9 c9 x5 hown9 hb9 hg9; have hk9 : Kept x4 x5 := Kept.grown HT7.out.o1 hg9; have HO9 := Lib.hid hown9; have HB9 := Lib.hid hb9; clear hown9 hb9 hg9; (try dsimp only [Act.put]); (try simp only [List.setIfInBounds_toArray, List.set_cons_succ, List.set_cons_zero]))) | (go_wp2_with (first | (go_at_call 54; (with_reducible refine (HP1.out _ (by exact blw)).mono ?_); rintro e x3 ⟨a6, c6, rfl, ht6, hb6, hk6⟩; have HT6 := Lib.hid ht6; have HB6 := Lib.hid hb6; have hz6 : w.heap.size ≤ x3.heap.size := Nat.le_trans hz5 hb6.size; have HP2 := Lib.hid (fun W (hW : Below x3.heap.size x3 W) => putB2 (HT6.out.below hW) (Nat.le_trans hz6 hW.size) mS 4 (N + 16) (mS : Int) 4 rfl rfl (by omega) (by omega) (by omega) (by omega)); clear ht6 hb6) | (go_at_call 54; (with_reducible refine (HP2.out _ (by exact blw)).mono ?_); rintro e x4 ⟨a7, c7, rfl, ht7, hb7, hk7⟩; have HT7 := Lib.hid ht7; have HB7 := Lib.hid hb7; have hz7 : w.heap.size ≤ x4.heap.size := Nat.le_trans hz6 hb7.size; clear ht7 hb7)))); refine HK_.out _ _ (kept_of (by repeat (first | exact Kept.refl _ | assumption | refine Kept.trans ?_ (Kept.below (bdrew1 (brefl _))) | refine Kept.trans ?_ (Kept.below (balloc (brefl _) _)) | refine Kept.trans ?_ (by assumption)))) ?_; clear HK_)
            (refine tree_run gtA (by rfl) (by rfl) (fun K_ hK_ => ?_); have HK_ := Lib.hid hK_; clear hK_; (first | (((refine wpAppA _ _ 22 rfl w.heap.size 5 (.int .u8 0) 1 1 Try.underlying22 u8_info rfl (by decide) _ (N + 16) _ rfl HT7.out.o1 aZ NI cZ (bytesV IB) rfl (by rw [bytesV_length, HIL.out, Nat.mul_one]) (has_of_owns HT7.out.o2) KZ3.out (bytesV_one _) (by unfold maxLen; omega) (by omega) (by first | omega | (simp; omega)) ?_); intro a9 c9 x5 hown9 hb9 hg9; have hk9 : Kept x4 x5 := Kept.grown HT7.out.o1 hg9; have HO9 := Lib.hid hown9; have HB9 := Lib.hid hb9; clear hown9 hb9 hg9; (try dsimp only [Act.put]); (try simp only [List.setIfInBounds_toArray, List.set_cons_succ, List.set_cons_zero]))) | (go_wp2_with (first | (go_at_call 54; (with_reducible refine (HP1.out _ (by exact blw)).mono ?_); rintro e x3 ⟨a6, c6, rfl, ht6, hb6, hk6⟩; have HT6 := Lib.hid ht6; have HB6 := Lib.hid hb6; have hz6 : w.heap.size ≤ x3.heap.size := Nat.le_trans hz5 hb6.size; have HP2 := Lib.hid (fun W (hW : Below x3.heap.size x3 W) => putB2 (HT6.out.below hW) (Nat.le_trans hz6 hW.size) mS 4 (N + 16) (mS : Int) 4 rfl rfl (by omega) (by omega) (by omega) (by omega)); clear ht6 hb6) | (go_at_call 54; (with_reducible refine (HP2.out _ (by exact blw)).mono ?_); rintro e x4 ⟨a7, c7, rfl, ht7, hb7, hk7⟩; have HT7 := Lib.hid ht7; have HB7 := Lib.hid hb7; have hz7 : w.heap.size ≤ x4.heap.size := Nat.le_trans hz6 hb7.size; clear ht7 hb7)))); refine HK_.out _ _ (kept_of (by repeat (first | exact Kept.refl _ | assumption | refine Kept.trans ?_ (Kept.below (bdrew1 (brefl _))) | refine Kept.trans ?_ (Kept.below (balloc (brefl _) _)) | refine Kept.trans ?_ (by assumption)))) ?_; clear HK_)
            (refine tree_run gtA (by rfl) (by rfl) (fun K_ hK_ => ?_); have HK_ := Lib.hid hK_; clear hK_; (first | (((refine wpAppA _ _ 22 rfl w.heap.size 5 (.int .u8 0) 1 1 Try.underlying22 u8_info rfl (by decide) _ (N + 16) _ rfl HT7.out.o1 aZ NI cZ (bytesV IB) rfl (by rw [bytesV_length, HIL.out, Nat.mul_one]) (has_of_owns HT7.out.o2) KZ3.out (bytesV_one _) (by unfold maxLen; omega) (by omega) (by first | omega | (simp; omega)) ?_); intro a9 c9 x5 hown9 hb9 hg9; have hk9 : Kept x4 x5 := Kept.grown HT7.out.o1 hg9; have HO9 := Lib.hid hown9; have HB9 := Lib.hid hb9; clear hown9 hb9 hg9; (try dsimp only [Act.put]); (try simp only [List.setIfInBounds_toArray, List.set_cons_succ, List.set_cons_zero]))) | (go_wp2_with (first | (go_at_call 54; (with_reducible refine (HP1.out _ (by exact blw)).mono ?_); rintro e x3 ⟨a6, c6, rfl, ht6, hb6, hk6⟩; have HT6 := Lib.hid ht6; have HB6 := Lib.hid hb6; have hz6 : w.heap.size ≤ x3.heap.size := Nat.le_trans hz5 hb6.size; have HP2 := Lib.hid (fun W (hW : Below x3.heap.size x3 W) => putB2 (HT6.out.below hW) (Nat.le_trans hz6 hW.size) mS 4 (N + 16) (mS : Int) 4 rfl rfl (by omega) (by omega) (by omega) (by omega)); clear ht6 hb6) | (go_at_call 54; (with_reducible refine (HP2.out _ (by exact blw)).mono ?_); rintro e x4 ⟨a7, c7, rfl, ht7, hb7, hk7⟩; have HT7 := Lib.hid ht7; have HB7 := Lib.hid hb7; have hz7 : w.heap.size ≤ x4.heap.size := Nat.le_trans hz6 hb7.size; clear ht7 hb7)))); refine HK_.out _ _ (kept_of (by repeat (first | exact Kept.refl _ | assumption | refine Kept.trans ?_ (Kept.below (bdrew1 (brefl _))) | refine Kept.trans ?_ (Kept.below (balloc (brefl _) _)) | refine Kept.trans ?_ (by assumption)))) ?_; clear HK_)
            (refine tree_quiet gtA (by rfl) (by rfl) (fun K_ hK_ => ?_); go_big_quiet_op; refine hK_ _ ?_; clear hK_ K_)
            refine tree_nil ?_
            clear hK0_
            have HBN := Lib.hid (HB5.out.drew.trans (HB6.out.trans (HB7.out.trans HB9.out)))
            have hbn := HO9.out
            rw [← bytesV_append] at hbn
            have hfin : headC n ++ chsL (ps.take k) ++ beN 4 first ++ beN 4 (16 + NI) ++ beN 4 mR ++ beN 4 mS ++ IB = headC n ++ chsL (ps.take (k + 1)) := by
              rw [HSN.out, chsL_snoc, HCH.out, ← HIBD.out, HIL.out]
              simp only [List.append_assoc]
            rw [hfin] at hbn
            have HON := Lib.hid hbn
            have HNX2 := Lib.hid (show N + 16 + NI = 8 + (chsL (ps.take (k + 1))).length from by rw [HNX.out, ← HIBD.out, HIL.out]; omega)
            clear hbn hfin hk6 hk7 hk9
            go_wp2_with fail
            go_roundw
            case rel => exact ⟨k + 1, N + 16 + NI, a9, c9, hlt, by go_num, HNX2.out, rfl, HON.out, HBN.out⟩
            case measure => simp [Go.RowKit.intOf]; omega
end Go.Proofs.Ythehcbbdkiomnaa
end
section

/- chain.long, chain.ruleOf and chain.split: numbers of four bytes, a rule of twelve bytes, the first of several parts. Conditions: as many bytes as the slice says. -/
namespace Go.Proofs.Ythehcbbdkiomnaa
open Go.RowKit Go.Lib

set_option maxRecDepth 100000 in
set_option maxHeartbeats 1600000 in
theorem long_ok (a : Option Addr) (n c k : Nat) (z : Int) (hz : z = (k : Nat)) (bs : List UInt8) (w : World) (h : Has w a (bytesV bs)) (hl : bs.length = n) (hk : k + 4 ≤ n) (hn : n ≤ c) (hc : c ≤ maxLen) :
    Calls Try.prog 91 #[.agg #[.slice a n c], .int .i64 z] w fun e w' => e = .returned (.int .u32 (num bs k 4 : Nat)) ∧ Below w.heap.size w w' := by
  have hAC := allocC
  have hAF := allocF
  have HU := Lib.hid (fun W (hW : Below w.heap.size w W) => u32_z a n c k z hz bs W (h.below hW) hl hk hn hc)
  have hy := num4_lt bs k
  generalize num bs k 4 = y at *
  have hcv : IntKind.u32.wrap (y : Int) = (y : Int) := by
    simp only [IntKind.wrap, IntKind.bits, IntKind.signed]
    simp
    omega
  clear h hl hk hn hc hz
  go_enter Try.func91, Try.ntmps91
  go_wp2_with (first | (go_at_call 64; (with_reducible refine (HU.out _ (by exact blw)).mono ?_); rintro e w1 ⟨rfl, hb1⟩; have h1c := bc hb1; have h1f := bf hb1; have h1z := hb1.size; try simp only [World.size_alloc, World.size_drew] at h1z))
  go_ret
  exact ⟨rfl, blw⟩
set_option maxRecDepth 100000 in
set_option maxHeartbeats 1600000 in
theorem long_bad (a : Option Addr) (n c : Nat) (z : Int) (w : World) (hk : ¬ (0 ≤ z ∧ z + 4 ≤ n)) (hn : n ≤ c) (hc : c ≤ maxLen) :
    Calls Try.prog 91 #[.agg #[.slice a n c], .int .i64 z] w fun e w' => e = .panicked thrown ∧ Below w.heap.size w w' := by
  have hAC := allocC
  have hAF := allocF
  have HU := Lib.hid (fun W => u32_bad a n c z W hk hn hc)
  clear hk hn hc
  go_enter Try.func91, Try.ntmps91
  go_wp2_with (first | (go_at_call 64; (with_reducible refine (HU.out _).mono ?_); rintro e w1 ⟨rfl, hb1⟩; have h1c := bc hb1; have h1f := bf hb1; have h1z := hb1.size; try simp only [World.size_alloc, World.size_drew] at h1z))
  exact ⟨rfl, rfl, blw⟩
def ruleV (rb : List UInt8) : List Value := [.int .i64 (num rb 0 2 : Nat), .int .i64 (num rb 2 2 : Nat), .int .u32 (num rb 4 4 : Nat), .int .u32 (num rb 8 4 : Nat)]
set_option maxRecDepth 100000 in
set_option maxHeartbeats 1600000 in
theorem ruleOf_any (a : Option Addr) (c : Nat) (rb : List UInt8) (w : World) (h : Has w a (bytesV rb)) (hl : rb.length = 12) (hn : 12 ≤ c) (hc : c ≤ maxLen) :
    Calls Try.prog 92 #[.agg #[.slice a 12 c]] w fun e w' => e = .returned (.agg (ruleV rb).toArray) ∧ Below w.heap.size w w' := by
  have hAC := allocC
  have hAF := allocF
  have H0 := Lib.hid (fun W (hW : Below w.heap.size w W) => u16_z a 12 c 0 0 rfl rb W (h.below hW) hl (by omega) hn hc)
  have H2 := Lib.hid (fun W (hW : Below w.heap.size w W) => u16_z a 12 c 2 2 rfl rb W (h.below hW) hl (by omega) hn hc)
  have H4 := Lib.hid (fun W (hW : Below w.heap.size w W) => long_ok a 12 c 4 4 rfl rb W (h.below hW) hl (by omega) hn hc)
  have H8 := Lib.hid (fun W (hW : Below w.heap.size w W) => long_ok a 12 c 8 8 rfl rb W (h.below hW) hl (by omega) hn hc)
  clear h hl hn hc
  unfold ruleV
  generalize num rb 0 2 = y0 at *
  generalize num rb 2 2 = y2 at *
  generalize num rb 4 4 = y4 at *
  generalize num rb 8 4 = y8 at *
  go_enter Try.func92, Try.ntmps92
  go_wp2_with fail
  obtain ⟨V, hV⟩ : ∃ V, V = ((w.alloc (Obj.cells #[.slice a 12 c] 89)).alloc (Obj.cells #[.int .i64 0, .int .i64 0, .int .u32 0, .int .u32 0] 85)) := ⟨_, rfl⟩
  have hb : Below w.heap.size w V := by rw [hV]; exact blw
  have z0 : V.cell? ⟨w.heap.size, 0, none⟩ = some (.slice a 12 c) := by rw [hV, hAC, if_neg (by simp), hAC, if_pos rfl]; rfl
  have z1 : V.heap[w.heap.size + 1]? = some (.cells #[.int .i64 0, .int .i64 0, .int .u32 0, .int .u32 0] 85 (0, 0)) := by rw [hV, heap_push, if_pos (by simp)]
  rw [← hV]
  clear hV
  have HB := Lib.hid hb
  have Z1 := Lib.hid z1
  have hl0 := cell_lt z0
  have hl1 := (Array.getElem?_eq_some_iff.1 z1).1
  have q1 := fun o => cell_of_heap z1 o
  have f1 := fun o => froz_of_heap z1 o
  simp only at hl0
  clear hb z1
  refine wp_region_last (.step 0 (.step 2 (.step 4 (.step 6 (.step 1 (.step 3 (.step 5 (.step 7 (.step 8 (.step 9 .nil)))))))))) 9 (by kernel_rfl) (by kernel_rfl) (by kernel_rfl) (by kernel_rfl) (by kernel_rfl) (by intro _ _ d_ _ _ h_; cases d_ <;> first | exact h_ | (dsimp +zetaDelta only at h_ ⊢; exact h_)) (fun w' => ∃ p : Wld V [], w' = p.val) (wld_start _ _) ?_
  have hG_ := @wldC V
  (refine z_quiet gtA (by rfl) (by rfl) (fun K_ hK_ => ?_); go_big_quiet_op; refine hK_ _ ?_; clear hK_ K_)
  (refine z_quiet gtA (by rfl) (by rfl) (fun K_ hK_ => ?_); go_big_quiet_op; refine hK_ _ ?_; clear hK_ K_)
  (refine z_quiet gtA (by rfl) (by rfl) (fun K_ hK_ => ?_); go_big_quiet_op; refine hK_ _ ?_; clear hK_ K_)
  (refine z_quiet gtA (by rfl) (by rfl) (fun K_ hK_ => ?_); go_big_quiet_op; refine hK_ _ ?_; clear hK_ K_)
  (refine z_run gtA (by rfl) (by rfl) (fun K_ hK_ => ?_); have HK_ := Lib.hid hK_; clear hK_; go_wp2_with (first | (go_at_call 61; (with_reducible refine (H0.out _ (HB.out.trans (Below.mono (w := V) (by exact blw) HB.out.size))).mono ?_); rintro e wa ⟨rfl, hba⟩; have hac := bc hba; have haf := bf hba; have haz := hba.size; try simp only [World.size_alloc, World.size_drew] at haz) | (go_at_call 61; (with_reducible refine (H2.out _ (HB.out.trans (Below.mono (w := V) (by exact blw) HB.out.size))).mono ?_); rintro e wb ⟨rfl, hbb⟩; have hbc := bc hbb; have hbf := bf hbb; have hbz := hbb.size; try simp only [World.size_alloc, World.size_drew] at hbz) | (go_at_call 91; (with_reducible refine (H4.out _ (HB.out.trans (Below.mono (w := V) (by exact blw) HB.out.size))).mono ?_); rintro e wd ⟨rfl, hbd⟩; have hdc := bc hbd; have hdf := bf hbd; have hdz := hbd.size; try simp only [World.size_alloc, World.size_drew] at hdz) | (go_at_call 91; (with_reducible refine (H8.out _ (HB.out.trans (Below.mono (w := V) (by exact blw) HB.out.size))).mono ?_); rintro e wq ⟨rfl, hbq⟩; have hqc := bc hbq; have hqf := bf hbq; have hqz := hbq.size; try simp only [World.size_alloc, World.size_drew] at hqz)); refine HK_.out _ _ (wld_ofA) ?_; clear HK_)
  (refine z_run gtA (by rfl) (by rfl) (fun K_ hK_ => ?_); have HK_ := Lib.hid hK_; clear hK_; go_wp2_with (first | (go_at_call 61; (with_reducible refine (H0.out _ (HB.out.trans (Below.mono (w := V) (by exact blw) HB.out.size))).mono ?_); rintro e wa ⟨rfl, hba⟩; have hac := bc hba; have haf := bf hba; have haz := hba.size; try simp only [World.size_alloc, World.size_drew] at haz) | (go_at_call 61; (with_reducible refine (H2.out _ (HB.out.trans (Below.mono (w := V) (by exact blw) HB.out.size))).mono ?_); rintro e wb ⟨rfl, hbb⟩; have hbc := bc hbb; have hbf := bf hbb; have hbz := hbb.size; try simp only [World.size_alloc, World.size_drew] at hbz) | (go_at_call 91; (with_reducible refine (H4.out _ (HB.out.trans (Below.mono (w := V) (by exact blw) HB.out.size))).mono ?_); rintro e wd ⟨rfl, hbd⟩; have hdc := bc hbd; have hdf := bf hbd; have hdz := hbd.size; try simp only [World.size_alloc, World.size_drew] at hdz) | (go_at_call 91; (with_reducible refine (H8.out _ (HB.out.trans (Below.mono (w := V) (by exact blw) HB.out.size))).mono ?_); rintro e wq ⟨rfl, hbq⟩; have hqc := bc hbq; have hqf := bf hbq; have hqz := hbq.size; try simp only [World.size_alloc, World.size_drew] at hqz)); refine HK_.out _ _ (wld_ofA) ?_; clear HK_)
  (refine z_run gtA (by rfl) (by rfl) (fun K_ hK_ => ?_); have HK_ := Lib.hid hK_; clear hK_; go_wp2_with (first | (go_at_call 61; (with_reducible refine (H0.out _ (HB.out.trans (Below.mono (w := V) (by exact blw) HB.out.size))).mono ?_); rintro e wa ⟨rfl, hba⟩; have hac := bc hba; have haf := bf hba; have haz := hba.size; try simp only [World.size_alloc, World.size_drew] at haz) | (go_at_call 61; (with_reducible refine (H2.out _ (HB.out.trans (Below.mono (w := V) (by exact blw) HB.out.size))).mono ?_); rintro e wb ⟨rfl, hbb⟩; have hbc := bc hbb; have hbf := bf hbb; have hbz := hbb.size; try simp only [World.size_alloc, World.size_drew] at hbz) | (go_at_call 91; (with_reducible refine (H4.out _ (HB.out.trans (Below.mono (w := V) (by exact blw) HB.out.size))).mono ?_); rintro e wd ⟨rfl, hbd⟩; have hdc := bc hbd; have hdf := bf hbd; have hdz := hbd.size; try simp only [World.size_alloc, World.size_drew] at hdz) | (go_at_call 91; (with_reducible refine (H8.out _ (HB.out.trans (Below.mono (w := V) (by exact blw) HB.out.size))).mono ?_); rintro e wq ⟨rfl, hbq⟩; have hqc := bc hbq; have hqf := bf hbq; have hqz := hbq.size; try simp only [World.size_alloc, World.size_drew] at hqz)); refine HK_.out _ _ (wld_ofA) ?_; clear HK_)
  (refine z_run gtA (by rfl) (by rfl) (fun K_ hK_ => ?_); have HK_ := Lib.hid hK_; clear hK_; go_wp2_with (first | (go_at_call 61; (with_reducible refine (H0.out _ (HB.out.trans (Below.mono (w := V) (by exact blw) HB.out.size))).mono ?_); rintro e wa ⟨rfl, hba⟩; have hac := bc hba; have haf := bf hba; have haz := hba.size; try simp only [World.size_alloc, World.size_drew] at haz) | (go_at_call 61; (with_reducible refine (H2.out _ (HB.out.trans (Below.mono (w := V) (by exact blw) HB.out.size))).mono ?_); rintro e wb ⟨rfl, hbb⟩; have hbc := bc hbb; have hbf := bf hbb; have hbz := hbb.size; try simp only [World.size_alloc, World.size_drew] at hbz) | (go_at_call 91; (with_reducible refine (H4.out _ (HB.out.trans (Below.mono (w := V) (by exact blw) HB.out.size))).mono ?_); rintro e wd ⟨rfl, hbd⟩; have hdc := bc hbd; have hdf := bf hbd; have hdz := hbd.size; try simp only [World.size_alloc, World.size_drew] at hdz) | (go_at_call 91; (with_reducible refine (H8.out _ (HB.out.trans (Below.mono (w := V) (by exact blw) HB.out.size))).mono ?_); rintro e wq ⟨rfl, hbq⟩; have hqc := bc hbq; have hqf := bf hbq; have hqz := hbq.size; try simp only [World.size_alloc, World.size_drew] at hqz)); refine HK_.out _ _ (wld_ofA) ?_; clear HK_)
  (refine z_quiet gtA (by rfl) (by rfl) (fun K_ hK_ => ?_); go_big_quiet_op; refine hK_ _ ?_; clear hK_ K_)
  (refine z_last gtA (by rfl) (by rfl) (by rfl) (fun K_ hK_ => ?_); have HK_ := Lib.hid hK_; clear hK_; go_wp2_with (first | (go_at_call 61; (with_reducible refine (H0.out _ (HB.out.trans (Below.mono (w := V) (by exact blw) HB.out.size))).mono ?_); rintro e wa ⟨rfl, hba⟩; have hac := bc hba; have haf := bf hba; have haz := hba.size; try simp only [World.size_alloc, World.size_drew] at haz) | (go_at_call 61; (with_reducible refine (H2.out _ (HB.out.trans (Below.mono (w := V) (by exact blw) HB.out.size))).mono ?_); rintro e wb ⟨rfl, hbb⟩; have hbc := bc hbb; have hbf := bf hbb; have hbz := hbb.size; try simp only [World.size_alloc, World.size_drew] at hbz) | (go_at_call 91; (with_reducible refine (H4.out _ (HB.out.trans (Below.mono (w := V) (by exact blw) HB.out.size))).mono ?_); rintro e wd ⟨rfl, hbd⟩; have hdc := bc hbd; have hdf := bf hbd; have hdz := hbd.size; try simp only [World.size_alloc, World.size_drew] at hdz) | (go_at_call 91; (with_reducible refine (H8.out _ (HB.out.trans (Below.mono (w := V) (by exact blw) HB.out.size))).mono ?_); rintro e wq ⟨rfl, hbq⟩; have hqc := bc hbq; have hqf := bf hbq; have hqz := hbq.size; try simp only [World.size_alloc, World.size_drew] at hqz)); refine HK_.out _ _ ?_; clear HK_)
  refine z_nil ?_
  clear hG_
  have hB : Below V.heap.size V wq := blw
  have z := set_heap_at (o := 3) (.int .u32 (y8 : Nat)) (set_heap_at (o := 2) (.int .u32 (y4 : Nat)) (set_heap_at (o := 1) (.int .i64 (y2 : Nat)) (set_heap_at (o := 0) (.int .i64 (y0 : Nat)) ((hB.block _ hl1).trans Z1.out))))
  simp only [List.setIfInBounds_toArray, List.set_cons_succ, List.set_cons_zero] at z
  have q := fun o => cell_of_heap z o
  go_wp2_with fail
  refine bodyPost_ret (v := .agg #[.int .i64 (y0 : Nat), .int .i64 (y2 : Nat), .int .u32 (y4 : Nat), .int .u32 (y8 : Nat)]) (by simp [results, Try.results92, go_sem, q]) rfl ⟨rfl, ?_⟩
  have hBW := HB.out.trans (hB.mono HB.out.size)
  exact (((hBW.setCell (p := ⟨w.heap.size + 1, 0, none⟩) (Nat.le_succ _) _).setCell (p := ⟨w.heap.size + 1, 1, none⟩) (Nat.le_succ _) _).setCell (p := ⟨w.heap.size + 1, 2, none⟩) (Nat.le_succ _) _).setCell (p := ⟨w.heap.size + 1, 3, none⟩) (Nat.le_succ _) _
set_option maxRecDepth 100000 in
set_option maxHeartbeats 1600000 in
theorem split_ok (a : Option Addr) (n c k : Nat) (z : Int) (hz : z = (k : Nat)) (bs : List UInt8) (w : World) (h : Has w a (bytesV bs)) (hl : bs.length = n) (hk : k + 4 ≤ n) (hf : num bs k 4 ≤ n) (hn : n ≤ c) (hc : c ≤ maxLen) :
    Calls Try.prog 65 #[.agg #[.slice a n c], .int .i64 z] w fun e w' => e = .returned (.tuple #[.agg #[.slice a (num bs k 4) c], .agg #[.slice (adv a c (num bs k 4)) (n - num bs k 4) (c - num bs k 4)]]) ∧ Below w.heap.size w w' := by
  have hAC := allocC
  have hAF := allocF
  have HU := Lib.hid (fun W (hW : Below w.heap.size w W) => u32_z a n c k z hz bs W (h.below hW) hl hk hn hc)
  have hcut := fun W => cut_z a n c 0 (num bs k 4) 0 ((num bs k 4 : Nat) : Int) rfl rfl W (by omega) hn hc
  rw [adv_zero, Nat.sub_zero] at hcut
  have HC := Lib.hid hcut
  have HR := Lib.hid (fun W => rest_ok a n c (num bs k 4) W hf hn hc)
  generalize num bs k 4 = y at *
  generalize adv a c y = A2 at *
  clear h hl hk hn hc hz hcut hf
  go_enter Try.func65, Try.ntmps65
  go_wp2_with (first | (go_at_call 64; (with_reducible refine (HU.out _ (by exact blw)).mono ?_); rintro e w1 ⟨rfl, hb1⟩; have h1c := bc hb1; have h1f := bf hb1; have h1z := hb1.size; try simp only [World.size_alloc, World.size_drew] at h1z))
  have z2 : w1.cell? ⟨w.heap.size, 0, none⟩ = some (.slice a n c) := (hb1.cell (p := ⟨w.heap.size, 0, none⟩) (by simp only [World.size_alloc]; omega)).trans (by rw [hAC, if_neg (by simp only [World.size_alloc]; omega), hAC, if_neg (by simp only [World.size_alloc]; omega), hAC, if_pos rfl]; rfl)
  have z4 : w1.heap[w.heap.size + 1]? = some (.cells #[.slice none 0 0] 89 (0, 0)) := (hb1.block _ (by simp only [World.size_alloc]; omega)).trans (by rw [heap_push, if_neg (by simp only [World.size_alloc]; omega), heap_push, if_pos (by simp only [World.size_alloc])])
  have z5 : w1.heap[w.heap.size + 2]? = some (.cells #[.slice none 0 0] 89 (0, 0)) := (hb1.block _ (by simp only [World.size_alloc]; omega)).trans (by rw [heap_push, if_pos (by simp only [World.size_alloc])])
  have HB := Lib.hid (show Below w.heap.size w w1 from blw)
  have Z4 := Lib.hid z4
  have Z5 := Lib.hid z5
  have hl0 := cell_lt z2
  have hl1 := (Array.getElem?_eq_some_iff.1 z4).1
  have hl2 := (Array.getElem?_eq_some_iff.1 z5).1
  simp only at hl0
  have q4 := fun o => cell_of_heap z4 o
  have f4 := fun o => froz_of_heap z4 o
  have q5 := fun o => cell_of_heap z5 o
  have f5 := fun o => froz_of_heap z5 o
  simp only [World.size_alloc, Nat.add_assoc, Nat.reduceAdd]
  clear hb1 z4 z5 h1c h1f h1z
  refine wp_region_last (.step 0 (.step 1 (.step 3 (.step 4 (.step 2 (.step 5 (.step 6 (.step 7 .nil)))))))) 7 (by kernel_rfl) (by kernel_rfl) (by kernel_rfl) (by kernel_rfl) (by kernel_rfl) (by intro _ _ d_ _ _ h_; cases d_ <;> first | exact h_ | (dsimp +zetaDelta only at h_ ⊢; exact h_)) (fun w' => ∃ p : Wld w1 [(w.heap.size+1)], w' = p.val) (wld_start _ _) ?_
  have hG_ := @wldC1 w1 (w.heap.size+1)
  (refine z_quiet gtA (by rfl) (by rfl) (fun K_ hK_ => ?_); go_big_quiet_op; refine hK_ _ ?_; clear hK_ K_)
  (refine z_quiet gtA (by rfl) (by rfl) (fun K_ hK_ => ?_); go_big_quiet_op; refine hK_ _ ?_; clear hK_ K_)
  (refine z_quiet gtA (by rfl) (by rfl) (fun K_ hK_ => ?_); go_big_quiet_op; refine hK_ _ ?_; clear hK_ K_)
  (refine z_quiet gtA (by rfl) (by rfl) (fun K_ hK_ => ?_); go_big_quiet_op; refine hK_ _ ?_; clear hK_ K_)
  (refine z_run gtA (by rfl) (by rfl) (fun K_ hK_ => ?_); have HK_ := Lib.hid hK_; clear hK_; go_wp2_with (first | (go_at_call 88; (with_reducible refine (HC.out _).mono ?_); rintro e wa ⟨rfl, hba⟩; have hac := bc hba; have haf := bf hba; have haz := hba.size; try simp only [World.size_alloc, World.size_drew] at haz) | (go_at_call 63; (with_reducible refine (HR.out _).mono ?_); rintro e wb ⟨rfl, hbb⟩; have hbc := bc hbb; have hbf := bf hbb; have hbz := hbb.size; try simp only [World.size_alloc, World.size_drew] at hbz)); refine HK_.out _ _ (wld_ofA) ?_; clear HK_)
  (refine z_run gtA (by rfl) (by rfl) (fun K_ hK_ => ?_); have HK_ := Lib.hid hK_; clear hK_; go_wp2_with (first | (go_at_call 88; (with_reducible refine (HC.out _).mono ?_); rintro e wa ⟨rfl, hba⟩; have hac := bc hba; have haf := bf hba; have haz := hba.size; try simp only [World.size_alloc, World.size_drew] at haz) | (go_at_call 63; (with_reducible refine (HR.out _).mono ?_); rintro e wb ⟨rfl, hbb⟩; have hbc := bc hbb; have hbf := bf hbb; have hbz := hbb.size; try simp only [World.size_alloc, World.size_drew] at hbz)); refine HK_.out _ _ (wld_ofA) ?_; clear HK_)
  (refine z_run gtA (by rfl) (by rfl) (fun K_ hK_ => ?_); have HK_ := Lib.hid hK_; clear hK_; go_wp2_with (first | (go_at_call 88; (with_reducible refine (HC.out _).mono ?_); rintro e wa ⟨rfl, hba⟩; have hac := bc hba; have haf := bf hba; have haz := hba.size; try simp only [World.size_alloc, World.size_drew] at haz) | (go_at_call 63; (with_reducible refine (HR.out _).mono ?_); rintro e wb ⟨rfl, hbb⟩; have hbc := bc hbb; have hbf := bf hbb; have hbz := hbb.size; try simp only [World.size_alloc, World.size_drew] at hbz)); refine HK_.out _ _ (wld_ofA) ?_; clear HK_)
  (refine z_last gtA (by rfl) (by rfl) (by rfl) (fun K_ hK_ => ?_); have HK_ := Lib.hid hK_; clear hK_; go_wp2_with (first | (go_at_call 88; (with_reducible refine (HC.out _).mono ?_); rintro e wa ⟨rfl, hba⟩; have hac := bc hba; have haf := bf hba; have haz := hba.size; try simp only [World.size_alloc, World.size_drew] at haz) | (go_at_call 63; (with_reducible refine (HR.out _).mono ?_); rintro e wb ⟨rfl, hbb⟩; have hbc := bc hbb; have hbf := bf hbb; have hbz := hbb.size; try simp only [World.size_alloc, World.size_drew] at hbz)); refine HK_.out _ _ ?_; clear HK_)
  refine z_nil ?_
  clear hG_
  have hB : Below w1.heap.size w1 wb := blw
  have zz := set_heap_at (o := 0) (.slice a y c) ((hB.block _ hl1).trans Z4.out)
  have z4 := (set_heap_other (o := 0) (.slice A2 (n - y) (c - y)) (show w.heap.size + 1 ≠ w.heap.size + 2 by omega)).trans zz
  have z5 := set_heap_at (o := 0) (.slice A2 (n - y) (c - y)) ((set_heap_other (o := 0) (.slice a y c) (show w.heap.size + 2 ≠ w.heap.size + 1 by omega)).trans ((hB.block _ hl2).trans Z5.out))
  simp only [List.setIfInBounds_toArray, List.set_cons_succ, List.set_cons_zero] at z4 z5
  have q4 := fun o => cell_of_heap z4 o
  have q5 := fun o => cell_of_heap z5 o
  go_wp2_with fail
  refine bodyPost_ret (v := .tuple #[.agg #[.slice a y c], .agg #[.slice A2 (n - y) (c - y)]]) (by simp [results, Try.results65, go_sem, q4, q5]) rfl ⟨rfl, ?_⟩
  have hBW := HB.out.trans (hB.mono HB.out.size)
  exact (hBW.setCell (p := ⟨w.heap.size + 1, 0, none⟩) (Nat.le_succ _) _).setCell (p := ⟨w.heap.size + 2, 0, none⟩) (by show w.heap.size ≤ w.heap.size + 2; omega) _
set_option maxRecDepth 100000 in
set_option maxHeartbeats 1600000 in
theorem split_short (a : Option Addr) (n c k : Nat) (z : Int) (hz : z = (k : Nat)) (w : World) (hk : n < k + 4) (hn : n ≤ c) (hc : c ≤ maxLen) :
    Calls Try.prog 65 #[.agg #[.slice a n c], .int .i64 z] w fun e w' => e = .panicked thrown ∧ Below w.heap.size w w' := by
  have hAC := allocC
  have hAF := allocF
  have HU := Lib.hid (fun W => u32_bad a n c z W (by omega) hn hc)
  clear hk hn hc hz
  go_enter Try.func65, Try.ntmps65
  go_wp2_with (first | (go_at_call 64; (with_reducible refine (HU.out _).mono ?_); rintro e w1 ⟨rfl, hb1⟩; have h1c := bc hb1; have h1f := bf hb1; have h1z := hb1.size; try simp only [World.size_alloc, World.size_drew] at h1z))
  exact ⟨rfl, rfl, blw⟩
set_option maxRecDepth 100000 in
set_option maxHeartbeats 1600000 in
theorem split_long (a : Option Addr) (n c k : Nat) (z : Int) (hz : z = (k : Nat)) (bs : List UInt8) (w : World) (h : Has w a (bytesV bs)) (hl : bs.length = n) (hk : k + 4 ≤ n) (hf : n < num bs k 4) (hn : n ≤ c) (hc : c ≤ maxLen) :
    Calls Try.prog 65 #[.agg #[.slice a n c], .int .i64 z] w fun e w' => e = .panicked thrown ∧ Below w.heap.size w w' := by
  have hAC := allocC
  have hAF := allocF
  have HU := Lib.hid (fun W (hW : Below w.heap.size w W) => u32_z a n c k z hz bs W (h.below hW) hl hk hn hc)
  have HC := Lib.hid (fun W => cut_bad a n c 0 ((num bs k 4 : Nat) : Int) W (by omega) hn hc)
  generalize num bs k 4 = y at *
  clear h hl hk hn hc hz hf
  go_enter Try.func65, Try.ntmps65
  go_wp2_with (first | (go_at_call 64; (with_reducible refine (HU.out _ (by exact blw)).mono ?_); rintro e w1 ⟨rfl, hb1⟩; have h1c := bc hb1; have h1f := bf hb1; have h1z := hb1.size; try simp only [World.size_alloc, World.size_drew] at h1z))
  have z2 : w1.cell? ⟨w.heap.size, 0, none⟩ = some (.slice a n c) := (hb1.cell (p := ⟨w.heap.size, 0, none⟩) (by simp only [World.size_alloc]; omega)).trans (by rw [hAC, if_neg (by simp only [World.size_alloc]; omega), hAC, if_neg (by simp only [World.size_alloc]; omega), hAC, if_pos rfl]; rfl)
  have HB := Lib.hid (show Below w.heap.size w w1 from blw)
  have hl0 := cell_lt z2
  simp only at hl0
  simp only [World.size_alloc, Nat.add_assoc, Nat.reduceAdd]
  clear hb1 h1c h1f h1z
  refine wp_region_tree (.step 0 (.step 1 (.step 3 (.step 4 (.step 2 (.step 5 (.step 6 (.step 7 .nil)))))))) (by kernel_rfl) (by kernel_rfl) (by kernel_rfl) (by kernel_rfl) (by intro _ _ d_ _ _ h_; cases d_ <;> first | exact h_ | (dsimp +zetaDelta only at h_ ⊢; exact h_)) (fun w' => ∃ p : Wld w1 [], w' = p.val) (wld_start _ _) ?_
  have hG_ := @wldC w1
  (refine tree_quiet gtA (by rfl) (by rfl) (fun K_ hK_ => ?_); go_big_quiet_op; refine hK_ _ ?_; clear hK_ K_)
  (refine tree_quiet gtA (by rfl) (by rfl) (fun K_ hK_ => ?_); go_big_quiet_op; refine hK_ _ ?_; clear hK_ K_)
  (refine tree_quiet gtA (by rfl) (by rfl) (fun K_ hK_ => ?_); go_big_quiet_op; refine hK_ _ ?_; clear hK_ K_)
  (refine tree_quiet gtA (by rfl) (by rfl) (fun K_ hK_ => ?_); go_big_quiet_op; refine hK_ _ ?_; clear hK_ K_)
  (refine tree_run gtA (by rfl) (by rfl) (fun K_ hK_ => ?_); have HK_ := Lib.hid hK_; clear hK_; go_wp2_with (first | (go_at_call 88; (with_reducible refine (HC.out _).mono ?_); rintro e wa ⟨rfl, hba⟩; have hac := bc hba; have haf := bf hba; have haz := hba.size; try simp only [World.size_alloc, World.size_drew] at haz)); exact ⟨rfl, rfl, HB.out.trans (Below.mono (show Below w1.heap.size w1 _ from blw) HB.out.size)⟩)
end Go.Proofs.Ythehcbbdkiomnaa
end
