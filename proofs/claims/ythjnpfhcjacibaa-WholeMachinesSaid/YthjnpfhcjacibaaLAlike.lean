
/- (*Table).alike. Conditions: a table in memory whose block is above the base; numbers within bounds. -/
import Derived.Test.YthjnpfhcjacibaaLAdd2
namespace Go.Proofs.Ythjnpfhcjacibaa
open Go.RowKit Go.Lib

/-- 'append' onto a slice of the call's own, in a row of operations. -/
theorem wpAppL {P : Program} {w : World} {ops : Array Oper} {rest : List Oper} {o : Oper} {a : Act} {Q : Exit → Act → World → Prop} (hgd : o.guard = none) (s x : Operand) (t : TypeId)
    (ho : o.op = .call { callee := .builtin .append, args := #[s, x], argTypes := #[t, t] })
    (base : Nat) (e : TypeId) (z : Value) (size bytes : Nat) (ht : P.underlying t = some (.slice e)) (hi : (P.info? e).map (fun i => (i.zero, i.size, i.bytes)) = some (some z, size, bytes)) (hzs : z.cells.size = size) (hsz : 0 < size)
    (v : Value) (n : Nat) (xs : List Value) (hs : a.eval s = v) (hown : w.ownsRow base e size v n xs)
    (p : Addr) (m c : Nat) (news : List Value) (hx : a.eval x = .slice (some p) m c) (hl : news.length = m * size) (hnews : Has w (some p) news) (h1 : ∀ u ∈ news, u.oneCell' = true)
    (h63 : n + m ≤ maxLen) (hbytes : (n + m) * bytes ≤ 140737488355328) (hbase : base ≤ w.heap.size)
    (h' : ∀ a' c' w', w'.ownsRow base e size (.slice a' (n + m) c') (n + m) (xs ++ news) → n + m ≤ c' → c' ≤ maxLen → (a' = none → c' = 0) → Below base w w' → w.grownBy w' v.ownBlock → wpList P ops Q rest (a.put o.dst (.slice a' (n + m) c')) w') : wpList P ops Q (o :: rest) a w :=
  wpList_plain hgd fun _ hK => wpAppO s x t ho base e z size bytes ht hi hzs hsz v n xs hs hown p m c news hx hl hnews h1 h63 hbytes hbase fun a' c' w' g1 g2 g3 g4 g5 g6 => hK _ _ (h' a' c' w' g1 g2 g3 g4 g5 g6)
theorem num_tail {B g fmt : Nat} {ps : List PartL} {ns : List Nat} {a3 ap an : Option Addr} {c3 cp cn n : Nat} {w w3 : World} (h0 : w.heap[g]? = some (.cells #[.int .i64 (fmt : Nat), .slice ap ps.length cp, .slice an ns.length cn] 64 (0, 0)))
    (ho : w3.ownsRow B 74 1 (.slice a3 (ns.length + 1) c3) (ns.length + 1) (u32V ns ++ [.int .u32 (n : Nat)])) (h1 : w.ownsRow B 66 4 (.slice ap ps.length cp) ps.length (partsL ps)) (hk : KeptE 74 w w3) (hB : B ≤ g) (hb : Below B w w3) :
    TabIs B g fmt ps (ns ++ [n]) (w3.setCell ⟨g, 2, none⟩ (.slice a3 (ns.length + 1) c3)) ∧ LKeep B g w (w3.setCell ⟨g, 2, none⟩ (.slice a3 (ns.length + 1) c3)) := by
  have hw3 := (hk.2 g _ _ _ h0 (by decide)).trans h0
  have h1' := hk.owns h1 (by decide)
  refine ⟨⟨ap, cp, a3, c3, ?_, ?_, ?_⟩, (LKeep.ofE hb hk (.inr rfl)).set hB _⟩
  · rw [set_heap_at _ hw3, List.length_append]; rfl
  · exact set_owns _ h1' (own_neE h1' hw3 (by decide))
  · rw [List.length_append, ← u32V_snoc]
    exact set_owns _ ho (own_neE ho hw3 (by decide))
set_option maxRecDepth 100000 in
set_option maxHeartbeats 1600000 in
theorem alike_any (B g fmt : Nat) (ps : List PartL) (ns : List Nat) (f l n : Nat) (zf zl zn : Int) (hzf : zf = (f : Nat)) (hzl : zl = (l : Nat)) (hzn : zn = (n : Nat)) (w : World) (h : TabIs B g fmt ps ns w) (hB : B ≤ g) (hl : ps.length ≤ 1000000) (hn : ns.length + 1 ≤ 100000000) :
    Calls Try.prog 31 #[.pointer (some ⟨g, 0, none⟩), .int .i64 zf, .int .i64 zl, .int .u32 zn] w fun e w' => ((CanAdd ps (f : Nat) (l : Nat) ∧ e = .returned (.tuple #[]) ∧ TabIs B g fmt (ps ++ [⟨f, l, ns.length, 0⟩]) (ns ++ [n]) w') ∨ (¬ CanAdd ps (f : Nat) (l : Nat) ∧ e = .panicked thrown)) ∧ LKeep B g w w' := by
  have hAC := allocC
  have hAF := allocF
  subst hzf hzl hzn
  have hBw : B ≤ w.heap.size := by
    obtain ⟨_, _, _, _, h0, _⟩ := h.is
    have := (Array.getElem?_eq_some_iff.1 h0).1
    omega
  by_cases hc : CanAdd ps (f : Nat) (l : Nat)
  case neg =>
    have HA := Lib.hid (add_bad B g fmt ps ns (f : Nat) (l : Nat) 0 w h hl hc)
    have HC := Lib.hid hc
    clear h hc
    go_enter Try.func31, Try.ntmps31
    go_wp2_with (first | (go_at_call 37; (with_reducible refine (HA.out).mono ?_); rintro e w1 ⟨rfl, hb1⟩; have h1c := bc hb1; have h1f := bf hb1; have h1z := hb1.size; try simp only [World.size_alloc, World.size_drew] at h1z))
    exact ⟨rfl, .inr ⟨HC.out, rfl⟩, LKeep.of hb1 hBw⟩
  have HA := Lib.hid (add_ok B g fmt ps ns f l 0 (f : Nat) (l : Nat) 0 rfl rfl rfl w h hB hl (by omega) hc)
  have HC := Lib.hid hc
  clear h hc
  go_enter Try.func31, Try.ntmps31
  go_wp2_with fail
  refine HA.out.mono ?_
  rintro e w1 ⟨rfl, ht, hk1⟩
  obtain ⟨ap, cp, an, cn, h0, h1, h2⟩ := ht.is
  have hg := (Array.getElem?_eq_some_iff.1 h0).1
  have c2 := cell_of_heap h0 2
  have cf := fun o => froz_of_heap h0 o
  simp only [List.getElem?_toArray, List.getElem?_cons_succ, List.getElem?_cons_zero] at c2
  have H1 := Lib.hid h1
  have H2 := Lib.hid h2
  have HK1 := Lib.hid hk1
  clear ht h1 h2 HA hk1
  generalize hps : ps ++ [⟨f, l, ns.length, 0⟩] = ps' at *
  generalize hLL : ps'.length = L at *
  generalize hNN : ns.length = M at *
  have HLL := Lib.hid hLL
  have HNN := Lib.hid hNN
  have HPS := Lib.hid hps
  clear hLL hNN hps
  go_wp2_with (first | (at_builtin; (refine wpAppL rfl _ _ 62 rfl B 74 (.int .u32 0) 1 4 Try.underlying62 u32_info rfl (by decide) _ M (u32V ns) rfl (owns_below H2.out (balloc (brefl w1) _) (Nat.le_refl _)) ⟨w1.heap.size, 0, none⟩ 1 1 [.int .u32 (n : Nat)] rfl rfl (has_alloc _ _ _) (fun u hu => by simp at hu; subst hu; rfl) (by unfold maxLen; omega) (by omega) (by simp; omega) ?_); intro a3 c3 w3 hown3 t31 t32 t33 hb3 hg3; have hk3 := KeptE.grown (owns_below H2.out (balloc (brefl w1) _) (Nat.le_refl _)) hg3; have hkw : KeptE 74 w1 w3 := (KeptE.below (balloc (brefl _) _)).trans hk3; have hw3 := (hkw.2 g _ _ _ h0 (by decide)).trans h0; have s2 := cell_of_heap hw3 2; have sf := fun o => froz_of_heap hw3 o; have HO3 := Lib.hid hown3; have HB3 := Lib.hid hb3; have HK3 := Lib.hid hkw; have hz3 := hg3.size; clear hown3 t31 t32 t33 hb3 hg3; dsimp only [Act.put]; simp only [List.setIfInBounds_toArray, List.set_cons_succ, List.set_cons_zero]))
  obtain rfl := HLL.out
  obtain rfl := HNN.out
  obtain rfl := HPS.out
  have hfin := num_tail h0 HO3.out H1.out HK3.out hB (((Below.refl B w1).alloc (by omega) _).trans HB3.out)
  refine bodyPost_end (v := .tuple #[]) (by simp [results, Try.results31, go_sem]; try rfl) rfl ⟨.inl ⟨HC.out, rfl, hfin.1⟩, HK1.out.trans hfin.2⟩
end Go.Proofs.Ythjnpfhcjacibaa
