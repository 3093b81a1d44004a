
/- What a font of some parts says of a face's three tables; a part that is cut; append onto a full slice. -/
import Derived.Test.YthacabmnnpibkaaPlainD
import Derived.Test.YthacabmnnpibkaaWShortLaw
import Derived.ArgAppend
namespace Go.Proofs.Ythacabmnnpibkaa
open Go.RowKit Go.Lib

/-- A font's tables are just these parts. -/
structure FontOf (F : List UInt8) (ps : List PartV) : Prop where
  has : ∀ p ∈ ps, ∃ i, tagFound F p.tag.toList i ∧ lenAt F i = p.n ∧ tabB F i = p.bs
  no : ∀ t : List UInt8, (∀ p ∈ ps, tagOf p ≠ t) → ∀ i, ¬ tagFound F t i
theorem rmake_of (a : Option Addr) (n c : Nat) (ps : List PartV) (w : World) (hh : Has w a (encAll ps)) (hl : ps.length = n) (hn : n ≤ c) (hc : c ≤ maxLen) (h0 : 0 < n) (h9 : n ≤ 9) (hok : ∀ p ∈ ps, p.ok w) (h4 : ∀ p ∈ ps, p.tag.size = 4) (hap : Apart ps) :
    Calls Try.prog 12 #[.slice a n c] w fun r w' => ∃ a' n' c' F, r = .returned (.slice a' n' c') ∧ Has w' a' (bytesV F) ∧ F.length = n' ∧ n' ≤ c' ∧ c' ≤ maxLen ∧ FontOf F ps ∧ Below w.heap.size w w' := by
  refine (rmake_any a n c ps w hh hl hn hc (by omega) h0 hok h4 hap).mono ?_
  rintro r w' ⟨rs, hp, hr, hf, a', c', rfl, hown, k1, k2, k3, hb⟩
  have hbs : ∀ p ∈ rs, p.bs.length = p.n := fun p hp' => (hok p (hp.mem_iff.1 hp')).len
  have htot := tot_le w rs fun p hp' => hok p (hp.mem_iff.1 hp')
  have hlen := hp.length_eq
  have hsz : 12 + 16 * rs.length + tot rs < 4294967296 := by omega
  exact ⟨a', _, c', font rs, rfl, has_of_owns hown, rfl, k1, k2, ⟨fun p hp' => font_tab hf hr hbs hsz (hp.mem_iff.2 hp'), fun t ht i => font_no hf hr hbs hsz (fun p hp' => ht p (hp.mem_iff.1 hp')) i⟩, hb⟩
theorem of_plain {F : List UInt8} {ps : List PartV} (h : FontOf F ps) {p1 p2 p3 : PartV} (m1 : p1 ∈ ps) (m2 : p2 ∈ ps) (m3 : p3 ∈ ps) (t1 : p1.tag = sMaxp) (t2 : p2.tag = sHead) (t3 : p3.tag = sHhea) (l1 : 6 ≤ p1.n) (l2 : 54 ≤ p2.n) (l3 : 36 ≤ p3.n) {g e m : Nat}
    (a1 : num p1.bs 0 4 = 65536 ∧ num p1.bs 4 2 = g) (a2 : num p2.bs 12 4 = 1594834165 ∧ num p2.bs 18 2 = e) (a3 : num p3.bs 34 2 = m) : IsPlain F g e m := by
  obtain ⟨i1, f1, q1, d1⟩ := h.has _ m1
  obtain ⟨i2, f2, q2, d2⟩ := h.has _ m2
  obtain ⟨i3, f3, q3, d3⟩ := h.has _ m3
  rw [t1] at f1
  rw [t2] at f2
  rw [t3] at f3
  intro x y z
  constructor
  · rintro ⟨j1, j2, j3, hx⟩
    obtain rfl := found_one f1 hx.t1.1
    obtain rfl := found_one f2 hx.t2.1
    obtain rfl := found_one f3 hx.t3.1
    have e1 := hx.ng
    have e2 := hx.ne
    have e3 := hx.nm
    rw [d1, a1.2] at e1
    rw [d2, a2.2] at e2
    rw [d3, a3] at e3
    have := hx.em
    have := hx.met
    omega
  · rintro ⟨rfl, rfl, rfl, k1, k2, k3, k4⟩
    exact ⟨i1, i2, i3, ⟨f1, by omega⟩, ⟨f2, by omega⟩, ⟨f3, by omega⟩, .inl (by rw [d1, a1.1]), by rw [d2, a2.1], by rw [d1, a1.2], by rw [d2, a2.2], by rw [d3, a3], ⟨k1, k2⟩, ⟨k3, k4⟩⟩
theorem of_short {F : List UInt8} {ps : List PartV} (h : FontOf F ps) {p : PartV} (m : p ∈ ps) (hs : (p.tag = sMaxp ∧ p.n < 6) ∨ (p.tag = sHead ∧ p.n < 54) ∨ (p.tag = sHhea ∧ p.n < 36)) (x y z : Nat) : ¬ Good F x y z := by
  rintro ⟨j1, j2, j3, hx⟩
  obtain ⟨i, f, q, _⟩ := h.has _ m
  rcases hs with ⟨t, hn⟩ | ⟨t, hn⟩ | ⟨t, hn⟩ <;> rw [t] at f
  · obtain rfl := found_one f hx.t1.1
    have := hx.t1.2
    omega
  · obtain rfl := found_one f hx.t2.1
    have := hx.t2.2
    omega
  · obtain rfl := found_one f hx.t3.1
    have := hx.t3.2
    omega
theorem of_gone {F : List UInt8} {ps : List PartV} (h : FontOf F ps) (t : ByteArray) (ht : t = sMaxp ∨ t = sHead ∨ t = sHhea) (hn : ∀ p ∈ ps, tagOf p ≠ t.data.toList) (x y z : Nat) : ¬ Good F x y z := by
  rintro ⟨j1, j2, j3, hx⟩
  rw [← ByteArray.toList_eq] at hn
  rcases ht with rfl | rfl | rfl
  · exact h.no _ hn _ hx.t1.1
  · exact h.no _ hn _ hx.t2.1
  · exact h.no _ hn _ hx.t3.1
/-- A part of its first n bytes. -/
def cutPt (p : PartV) (n : Nat) : PartV := ⟨p.tag, p.a, n, p.c, p.bs.take n⟩
theorem Bytes.cutPt {w : World} {base : Nat} {p : PartV} (h : Bytes w base p) {n : Nat} (hn : n ≤ p.n) : Bytes w base (cutPt p n) :=
  ⟨by have := owns_take h.own hn; rw [bytesV_take] at this; exact this, by show (p.bs.take n).length = n; rw [List.length_take, h.len]; omega, Nat.le_trans hn h.le, h.max, h.nil⟩
theorem cutPt_all {w : World} {base : Nat} {p : PartV} (h : Bytes w base p) : Proofs.Ythacabmnnpibkaa.cutPt p p.n = p := by
  unfold Proofs.Ythacabmnnpibkaa.cutPt
  rw [List.take_of_length_le (by rw [h.len]; exact Nat.le_refl _)]
theorem part_set {w : World} {base b k : Nat} {p1 p2 p3 p q : PartV} (ho : w.ownsRow base 27 2 (.slice (some ⟨b, 0, none⟩) 3 3) 3 (encAll [p1, p2, p3])) (hp : [p1, p2, p3][k]? = some p) (hq : q.tag = p.tag) :
    (w.setCell ⟨b, k * 2 + 1, none⟩ (.slice q.a q.n q.c)).ownsRow base 27 2 (.slice (some ⟨b, 0, none⟩) 3 3) 3 (encAll ([p1, p2, p3].set k q)) := by
  have h := (ho.stored (k * 2 + 1) (.slice q.a q.n q.c)).1
  have hk : k < 3 := by have := (List.getElem?_eq_some_iff.1 hp).1; simpa using this
  have e : (encAll [p1, p2, p3]).set (k * 2 + 1) (.slice q.a q.n q.c) = encAll ([p1, p2, p3].set k q) := by
    obtain rfl | rfl | rfl : k = 0 ∨ k = 1 ∨ k = 2 := by omega
    all_goals
      simp at hp
      subst hp
      simp [encAll, PartV.enc, hq]
  rwa [e] at h
theorem Bytes.setPart {w : World} {base base' b k : Nat} {p : PartV} {n c : Nat} {xs : List Value} (h : Bytes w base p) (ho : w.ownsRow base' 27 2 (.slice (some ⟨b, 0, none⟩) n c) n xs) (v : Value) : Bytes (w.setCell ⟨b, k, none⟩ v) base p := by
  have hk := KeptE.grown (e := 27) ho (ho.stored k v).2
  exact h.keptE hk (by decide)
/-- The document's Make of Plain's three parts, one of which is cut. -/
theorem rmake_cut (k n b base : Nat) (p1 p2 p3 p : PartV) (w : World) (hp : [p1, p2, p3][k]? = some p) (hn : n ≤ p.n) (hh : Has w (some ⟨b, 0, none⟩) (encAll ([p1, p2, p3].set k (cutPt p n)))) (o1 : Bytes w base p1) (o2 : Bytes w base p2) (o3 : Bytes w base p3)
    (t1 : p1.tag = sMaxp) (t2 : p2.tag = sHead) (t3 : p3.tag = sHhea) {g e m : Nat} (b1 : p1.bs = maxpB g) (b2 : p2.bs = headB e) (b3 : p3.bs = hheaB m) (hg : g ≤ 65535) (he : e ≤ 65535) (hm : m ≤ 65535) :
    Calls Try.prog 12 #[.slice (some ⟨b, 0, none⟩) 3 3] w fun r w' => ∃ a' n' c' F, r = .returned (.slice a' n' c') ∧ Has w' a' (bytesV F) ∧ F.length = n' ∧ n' ≤ c' ∧ c' ≤ maxLen ∧ (n = p.n → IsPlain F g e m) ∧ (n < p.n → ∀ x y z, ¬ Good F x y z) ∧ Below w.heap.size w w' := by
  have n1 : p1.n = 6 := by rw [← o1.len, b1]; simp [maxpB, be4, be2]
  have n2 : p2.n = 54 := by rw [← o2.len, b2]; simp [headB, be4, be2]
  have n3 : p3.n = 36 := by rw [← o3.len, b3]; simp [hheaB, be2]
  have hk : k < 3 := by have := (List.getElem?_eq_some_iff.1 hp).1; simpa using this
  have x1 := n_maxp g hg
  have x2 := n_head e he
  have x3 := n_hhea m hm
  rw [← b1] at x1
  rw [← b2] at x2
  rw [← b3] at x3
  have key : ∀ q1 q2 q3 : PartV, [p1, p2, p3].set k (cutPt p n) = [q1, q2, q3] → Bytes w base q1 → Bytes w base q2 → Bytes w base q3 → q1.tag = sMaxp → q2.tag = sHead → q3.tag = sHhea → q1.n ≤ 6 → q2.n ≤ 54 → q3.n ≤ 36 → (n = p.n → q1 = p1 ∧ q2 = p2 ∧ q3 = p3) → (n < p.n → q1.n < 6 ∨ q2.n < 54 ∨ q3.n < 36) →
      Calls Try.prog 12 #[.slice (some ⟨b, 0, none⟩) 3 3] w fun r w' => ∃ a' n' c' F, r = .returned (.slice a' n' c') ∧ Has w' a' (bytesV F) ∧ F.length = n' ∧ n' ≤ c' ∧ c' ≤ maxLen ∧ (n = p.n → IsPlain F g e m) ∧ (n < p.n → ∀ x y z, ¬ Good F x y z) ∧ Below w.heap.size w w' := by
    intro q1 q2 q3 he' r1 r2 r3 s1 s2 s3 l1 l2 l3 hall hsh
    rw [he'] at hh
    have hm' : ∀ q ∈ [q1, q2, q3], q = q1 ∨ q = q2 ∨ q = q3 := fun q hq => by simpa using hq
    refine (rmake_of _ 3 3 [q1, q2, q3] w hh rfl (Nat.le_refl _) (by decide) (by decide) (by decide) (fun q hq => ?_) (fun q hq => ?_) (plain_apart s1 s2 s3)).mono ?_
    · rcases hm' q hq with rfl | rfl | rfl
      · exact r1.ok (by omega)
      · exact r2.ok (by omega)
      · exact r3.ok (by omega)
    · rcases hm' q hq with rfl | rfl | rfl
      · rw [s1]; rfl
      · rw [s2]; rfl
      · rw [s3]; rfl
    · rintro r w' ⟨a', n', c', F, rfl, hF, hFl, k1, k2, hO, hb⟩
      refine ⟨a', n', c', F, rfl, hF, hFl, k1, k2, fun hnn => ?_, fun hlt => ?_, hb⟩
      · obtain ⟨rfl, rfl, rfl⟩ := hall hnn
        exact of_plain hO (by simp) (by simp) (by simp) t1 t2 t3 (by omega) (by omega) (by omega) x1 x2 x3
      · rcases hsh hlt with h | h | h
        · exact of_short hO (p := q1) (by simp) (.inl ⟨s1, h⟩)
        · exact of_short hO (p := q2) (by simp) (.inr (.inl ⟨s2, h⟩))
        · exact of_short hO (p := q3) (by simp) (.inr (.inr ⟨s3, h⟩))
  obtain rfl | rfl | rfl : k = 0 ∨ k = 1 ∨ k = 2 := by omega
  · obtain rfl : p1 = p := by simpa using hp
    exact key (cutPt p1 n) p2 p3 rfl (o1.cutPt hn) o2 o3 t1 t2 t3 (by show n ≤ 6; omega) (by omega) (by omega) (fun h => ⟨by rw [h]; exact cutPt_all o1, rfl, rfl⟩) (fun h => .inl (by show n < 6; omega))
  · obtain rfl : p2 = p := by simpa using hp
    exact key p1 (cutPt p2 n) p3 rfl o1 (o2.cutPt hn) o3 t1 t2 t3 (by omega) (by show n ≤ 54; omega) (by omega) (fun h => ⟨rfl, by rw [h]; exact cutPt_all o2, rfl⟩) (fun h => .inr (.inl (by show n < 54; omega)))
  · obtain rfl : p3 = p := by simpa using hp
    exact key p1 p2 (cutPt p3 n) rfl o1 o2 (o3.cutPt hn) t1 t2 t3 (by omega) (by omega) (by show n ≤ 36; omega) (fun h => ⟨rfl, rfl, by rw [h]; exact cutPt_all o3⟩) (fun h => .inr (.inr (by show n < 36; omega)))
/-- 'append' onto a slice that has no room left, whoever owns it: a new row. -/
theorem wpAppFull {P : Program} {w : World} {o : Oper} {a : Act} {K : Act → World → Prop} {Q : Exit → Act → World → Prop} (s x : Operand) (t : TypeId)
    (ho : o.op = .call { callee := .builtin .append, args := #[s, x], argTypes := #[t, t] })
    (e : TypeId) (z : Value) (size bytes : Nat) (ht : P.underlying t = some (.slice e)) (hi : (P.info? e).map (fun i => (i.zero, i.size, i.bytes)) = some (some z, size, bytes)) (hzs : z.cells.size = size) (hsz : 0 < size)
    (b n : Nat) (olds : List Value) (hs : a.eval s = .slice (some ⟨b, 0, none⟩) n n) (hlo : olds.length = n * size) (holds : Has w (some ⟨b, 0, none⟩) olds)
    (A : Addr) (m c : Nat) (news : List Value) (hx : a.eval x = .slice (some A) m c) (hl : news.length = m * size) (hnews : Has w (some A) news) (hm : 0 < m)
    (h63 : n + m ≤ maxLen) (hbytes : (n + m) * bytes ≤ 140737488355328)
    (h' : ∀ a' c' w', Has w' a' (olds ++ news) → n + m ≤ c' → c' ≤ maxLen → Below w.heap.size w w' → K (a.put o.dst (.slice a' (n + m) c')) w') : o.wp P a w K Q := by
  obtain ⟨i, hi, hz, hz1, hz2⟩ := info_parts hi
  obtain ⟨v', w', hr, r1, r2⟩ := run_append_arg_grows (P := P) w t o.type e i z size bytes ht hi hz hz1 hz2 hzs hsz ⟨b, 0, none⟩ n n olds hlo (fun j u hj => by obtain ⟨q, hq, hc⟩ := holds j u hj; cases hq; exact hc) A m c news hl (fun j u hj => by obtain ⟨q, hq, hc⟩ := hnews j u hj; cases hq; exact hc) (by omega) h63 hbytes
  obtain ⟨a', c', rfl, k1, k2, k3⟩ := owns_slice r1
  unfold Oper.wp execOp
  simp only [ho, resolve, invoke, builtin, Sem.run_bind, Sem.run_pure, Result.andThen_ok, List.map_toArray, List.map_cons, List.map_nil, hs, hx, hr]
  exact h' a' c' w' (has_of_owns r1) k1 k2 ((Below.refl _ w).grown r2 (Nat.le_refl _) fun k hk => by cases hk)
/-- 'append' of nothing onto a slice that isn't nil. -/
theorem wpAppNil {P : Program} {w : World} {o : Oper} {a : Act} {K : Act → World → Prop} {Q : Exit → Act → World → Prop} (s x : Operand) (t : TypeId)
    (ho : o.op = .call { callee := .builtin .append, args := #[s, x], argTypes := #[t, t] })
    (e : TypeId) (z : Value) (size bytes : Nat) (ht : P.underlying t = some (.slice e)) (hi : (P.info? e).map (fun i => (i.zero, i.size, i.bytes)) = some (some z, size, bytes))
    (b n c : Nat) (hn : n ≤ c) (hs : a.eval s = .slice (some ⟨b, 0, none⟩) n c) (A : Addr) (c' : Nat) (hx : a.eval x = .slice (some A) 0 c')
    (h' : K (a.put o.dst (.slice (some ⟨b, 0, none⟩) n c)) w) : o.wp P a w K Q := by
  obtain ⟨i, hi, hz, hz1, hz2⟩ := info_parts hi
  have hr := run_append_room_cells (P := P) w t o.type e i ht hi b 0 n c A 0 c' [] (by simp) (fun j u hj => by simp at hj) (fun u hu => by cases hu) (by omega) (fun j hj => by simp at hj) (fun j hj => by simp at hj)
  unfold Oper.wp execOp
  simp only [ho, resolve, invoke, builtin, Sem.run_bind, Sem.run_pure, Result.andThen_ok, List.map_toArray, List.map_cons, List.map_nil, hs, hx, hr]
  exact h'
/-- The document's Make of two of Plain's parts: the font lacks a table. -/
theorem rmake_gone (a : Option Addr) (c : Nat) (q1 q2 : PartV) (t : ByteArray) (w : World) (hh : Has w a (encAll [q1, q2])) (hc2 : 2 ≤ c) (hc : c ≤ maxLen) (ok1 : q1.ok w) (ok2 : q2.ok w) (s1 : q1.tag.size = 4) (s2 : q2.tag.size = 4) (hne : tagOf q1 ≠ tagOf q2) (ht : t = sMaxp ∨ t = sHead ∨ t = sHhea) (g1 : tagOf q1 ≠ t.data.toList) (g2 : tagOf q2 ≠ t.data.toList) :
    Calls Try.prog 12 #[.slice a 2 c] w fun r w' => ∃ a' n' c' F, r = .returned (.slice a' n' c') ∧ Has w' a' (bytesV F) ∧ F.length = n' ∧ n' ≤ c' ∧ c' ≤ maxLen ∧ (∀ x y z, ¬ Good F x y z) ∧ Below w.heap.size w w' := by
  have hm' : ∀ q ∈ [q1, q2], q = q1 ∨ q = q2 := fun q hq => by simpa using hq
  refine (rmake_of a 2 c [q1, q2] w hh rfl hc2 hc (by decide) (by decide) (fun q hq => ?_) (fun q hq => ?_) (by simp [Apart, hne])).mono ?_
  · rcases hm' q hq with rfl | rfl
    · exact ok1
    · exact ok2
  · rcases hm' q hq with rfl | rfl
    · exact s1
    · exact s2
  · rintro r w' ⟨a', n', c', F, rfl, hF, hFl, k1, k2, hO, hb⟩
    exact ⟨a', n', c', F, rfl, hF, hFl, k1, k2, of_gone hO t ht (fun q hq => (hm' q hq).elim (fun h => h ▸ g1) (fun h => h ▸ g2)), hb⟩
theorem fread_no (a : Option Addr) (n c : Nat) (bs : List UInt8) (w : World) (h : Has w a (bytesV bs)) (hl : bs.length = n) (hn : n ≤ c) (hc : c ≤ maxLen) (hno : ∀ x y z, ¬ Good bs x y z) :
    Calls Try.prog 11 #[.slice a n c] w fun r w' => r = .returned (.tuple #[.agg #[.int .i64 ((0 : Nat) : Int), .int .i64 ((0 : Nat) : Int), .int .i64 ((0 : Nat) : Int)], .int .i64 2]) ∧ Below w.heap.size w w' := by
  refine (fread_any a n c bs w h hl hn hc).mono ?_
  rintro r w' ⟨(⟨x, y, z, hG, _⟩ | ⟨_, rfl⟩), hb⟩
  · exact absurd hG (hno x y z)
  · exact ⟨rfl, hb⟩
theorem num_left2 (A B : List UInt8) (o : Nat) (h : o + 2 ≤ A.length) : num (A ++ B) o 2 = num A o 2 := by
  have := num_take (A ++ B) A.length o h
  rw [List.take_left] at this
  exact this.symm
theorem num_left4 (A B : List UInt8) (o : Nat) (h : o + 4 ≤ A.length) : num (A ++ B) o 4 = num A o 4 := by
  have := num_sub (A ++ B) 0 A.length o h
  rw [List.drop_zero, List.take_left, Nat.zero_add] at this
  exact this.symm
theorem x_maxp (g : Nat) (h : g ≤ 65535) (X : List UInt8) : num (maxpB g ++ X) 0 4 = 65536 ∧ num (maxpB g ++ X) 4 2 = g := by
  have hl : (maxpB g).length = 6 := by simp [maxpB, be4, be2]
  rw [num_left4 _ _ _ (by omega), num_left2 _ _ _ (by omega)]
  exact n_maxp g h
theorem x_head (g : Nat) (h : g ≤ 65535) (X : List UInt8) : num (headB g ++ X) 12 4 = 1594834165 ∧ num (headB g ++ X) 18 2 = g := by
  have hl : (headB g).length = 54 := by simp [headB, be4, be2]
  rw [num_left4 _ _ _ (by omega), num_left2 _ _ _ (by omega)]
  exact n_head g h
theorem x_hhea (g : Nat) (h : g ≤ 65535) (X : List UInt8) : num (hheaB g ++ X) 34 2 = g := by
  have hl : (hheaB g).length = 36 := by simp [hheaB, be2]
  rw [num_left2 _ _ _ (by omega)]
  exact n_hhea g h
def tMore : ByteArray := { data := #[109, 111, 114, 101] }
theorem more_apart {p1 p2 p3 p4 : PartV} (t1 : p1.tag = sMaxp) (t2 : p2.tag = sHead) (t3 : p3.tag = sHhea) (t4 : p4.tag = tMore) : Apart [p1, p2, p3, p4] := by
  simp only [Apart, tagOf, List.pairwise_cons, List.mem_cons, List.not_mem_nil, or_false, forall_eq_or_imp, forall_eq, t1, t2, t3, t4]
  exact ⟨⟨by decide, by decide, by decide⟩, ⟨by decide, by decide⟩, by decide, (fun _ h => h.elim), List.Pairwise.nil⟩
/-- The document's Make of Plain's parts, one of which may be longer, and of another one. -/
theorem rmake_more (a : Option Addr) (c : Nat) (p1 p2 p3 p4 : PartV) (w : World) (hh : Has w a (encAll [p1, p2, p3, p4])) (hc4 : 4 ≤ c) (hc : c ≤ maxLen) (k1 : p1.ok w) (k2 : p2.ok w) (k3 : p3.ok w) (k4 : p4.ok w)
    (t1 : p1.tag = sMaxp) (t2 : p2.tag = sHead) (t3 : p3.tag = sHhea) (t4 : p4.tag = tMore) (l1 : 6 ≤ p1.n) (l2 : 54 ≤ p2.n) (l3 : 36 ≤ p3.n) {g e m : Nat} {X1 X2 X3 : List UInt8} (b1 : p1.bs = maxpB g ++ X1) (b2 : p2.bs = headB e ++ X2) (b3 : p3.bs = hheaB m ++ X3) (hg : g ≤ 65535) (he : e ≤ 65535) (hm : m ≤ 65535) :
    Calls Try.prog 12 #[.slice a 4 c] w fun r w' => ∃ a' n' c' F, r = .returned (.slice a' n' c') ∧ Has w' a' (bytesV F) ∧ F.length = n' ∧ n' ≤ c' ∧ c' ≤ maxLen ∧ IsPlain F g e m ∧ Below w.heap.size w w' := by
  have hm' : ∀ q ∈ [p1, p2, p3, p4], q = p1 ∨ q = p2 ∨ q = p3 ∨ q = p4 := fun q hq => by simpa using hq
  refine (rmake_of a 4 c [p1, p2, p3, p4] w hh rfl hc4 hc (by decide) (by decide) (fun q hq => ?_) (fun q hq => ?_) (more_apart t1 t2 t3 t4)).mono ?_
  · rcases hm' q hq with rfl | rfl | rfl | rfl
    · exact k1
    · exact k2
    · exact k3
    · exact k4
  · rcases hm' q hq with rfl | rfl | rfl | rfl
    · rw [t1]; rfl
    · rw [t2]; rfl
    · rw [t3]; rfl
    · rw [t4]; rfl
  · rintro r w' ⟨a', n', c', F, rfl, hF, hFl, q1, q2, hO, hb⟩
    exact ⟨a', n', c', F, rfl, hF, hFl, q1, q2, of_plain hO (p1 := p1) (p2 := p2) (p3 := p3) (by simp) (by simp) (by simp) t1 t2 t3 l1 l2 l3 (b1 ▸ x_maxp g hg X1) (b2 ▸ x_head e he X2) (b3 ▸ x_hhea m hm X3), hb⟩
theorem fread_yes (a : Option Addr) (n c : Nat) (bs : List UInt8) (g e m : Nat) (w : World) (h : Has w a (bytesV bs)) (hl : bs.length = n) (hn : n ≤ c) (hc : c ≤ maxLen) (hp : IsPlain bs g e m) (hr : 16 ≤ e ∧ e ≤ 16384 ∧ 1 ≤ m ∧ m ≤ g) :
    Calls Try.prog 11 #[.slice a n c] w fun r w' => r = .returned (.tuple #[.agg #[.int .i64 (g : Nat), .int .i64 (e : Nat), .int .i64 (m : Nat)], .int .i64 0]) ∧ Below w.heap.size w w' := by
  refine (fread_any a n c bs w h hl hn hc).mono ?_
  rintro r w' ⟨(⟨x, y, z, hG, _, rfl⟩ | ⟨hno, _⟩), hb⟩
  · obtain ⟨rfl, rfl, rfl, _⟩ := (hp x y z).1 hG
    exact ⟨rfl, hb⟩
  · exact absurd ((hp g e m).2 ⟨rfl, rfl, rfl, hr⟩) (hno g e m)
theorem grown_owns {w w' : World} {base e size n : Nat} {v : Value} {xs : List Value} {o : Option Nat} (h : w.ownsRow base e size v n xs) (hg : w.grownBy w' o) (hne : v.ownBlock ≠ o) : w'.ownsRow base e size v n xs := by
  refine ⟨h.1, ?_⟩
  rcases h.2 with g | ⟨g, cap, cur, hv, hb, hh, r⟩
  · exact .inl g
  · refine .inr ⟨g, cap, cur, hv, hb, ?_, r⟩
    rw [hg.block g (Array.getElem?_eq_some_iff.1 hh).1 (by rw [hv] at hne; exact fun h => hne h)]
    exact hh
theorem Bytes.grownFar {w w' : World} {base base' : Nat} {p q : PartV} {xs : List Value} (h : Bytes w base p) (k : w.ownsRow base' 5 1 (.slice q.a q.n q.c) q.n xs) (hg : w.grownBy w' (Value.slice q.a q.n q.c).ownBlock) (hf : FarB p q) : Bytes w' base p := by
  refine ⟨?_, h.len, h.le, h.max, h.nil⟩
  by_cases he : (Value.slice p.a p.n p.c).ownBlock = (Value.slice q.a q.n q.c).ownBlock
  · rcases h.own.2 with ⟨hv, h0⟩ | ⟨g, cap, cur, hv, hb, hh, r⟩
    · exact ⟨h.own.1, .inl ⟨hv, h0⟩⟩
    · rcases k.2 with ⟨hv', _⟩ | ⟨g', cap', cur', hv', hb', hh', r'⟩
      · rw [hv, hv'] at he
        cases he
      · rw [hv, hv'] at he
        have e1 : p.a = some ⟨g, 0, none⟩ := by injection hv
        have e2 : q.a = some ⟨g', 0, none⟩ := by injection hv'
        have := hf _ _ e1 e2
        have e3 : g = g' := by simpa [Value.ownBlock] using he
        exact absurd e3 this
  · exact grown_owns h.own hg he
theorem FarB.symm {p q : PartV} (h : FarB p q) : FarB q p := fun x y hx hy hxy => h y x hy hx hxy.symm
theorem rlit1 (w : World) (g : Nat) (hg : g = w.heap.size) (p : PartV) : Has (w.alloc (.cells #[.string p.tag, .slice p.a p.n p.c] 27)) (some ⟨g, 0, none⟩) (PartV.enc p) := by
  subst hg
  exact has_alloc w #[.string p.tag, .slice p.a p.n p.c] _
end Go.Proofs.Ythacabmnnpibkaa
