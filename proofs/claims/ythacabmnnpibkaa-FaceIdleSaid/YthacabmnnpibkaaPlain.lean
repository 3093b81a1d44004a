
/- The contract of swashlaw03.Plain: the three parts of a font with such numbers. Condition: numbers of two bytes. -/
import Derived.Test.YthacabmnnpibkaaRMakeW
namespace Go.Proofs.Ythacabmnnpibkaa
open Go.RowKit Go.Lib

def maxpB (g : Nat) : List UInt8 := be4 65536 ++ be2 g
def headB (e : Nat) : List UInt8 := List.replicate 12 0 ++ be4 1594834165 ++ [0, 0] ++ be2 e ++ List.replicate 34 0
def hheaB (m : Nat) : List UInt8 := List.replicate 34 0 ++ be2 m
def sMaxp : ByteArray := { data := #[109, 97, 120, 112] }
def sHead : ByteArray := { data := #[104, 101, 97, 100] }
def sHhea : ByteArray := { data := #[104, 104, 101, 97] }
/-- Bytes that a call has made: a slice, of at least as many. -/
structure Bytes (w : World) (base : Nat) (p : PartV) : Prop where
  own : w.ownsRow base 5 1 (.slice p.a p.n p.c) p.n (bytesV p.bs)
  len : p.bs.length = p.n
  le : p.n ≤ p.c
  max : p.c ≤ maxLen
  nil : p.a = none → p.c = 0
theorem Bytes.below {w w' : World} {base B : Nat} {p : PartV} (h : Bytes w base p) (hb : Below B w w') (hB : w.heap.size ≤ B) : Bytes w' base p := ⟨owns_below h.own hb hB, h.len, h.le, h.max, h.nil⟩
theorem Bytes.mono {w : World} {base base' : Nat} {p : PartV} (h : Bytes w base p) (hb : base' ≤ base) : Bytes w base' p := ⟨owns_mono h.own hb, h.len, h.le, h.max, h.nil⟩
theorem Bytes.ok {w : World} {base : Nat} {p : PartV} (h : Bytes w base p) (hs : p.n ≤ 100000) : p.ok w := ⟨has_of_owns h.own, h.len, h.le, h.max, h.nil, hs⟩
theorem owns_zeros (w : World) (n : Nat) (hn : n ≤ maxLen) (cs : Array Value) (hcs : cs.toList = bytesV (List.replicate n 0)) : (w.alloc (.cells cs 5)).ownsRow w.heap.size 5 1 (.slice (some ⟨w.heap.size, 0, none⟩) n n) n (bytesV (List.replicate n 0)) := by
  rw [← hcs]
  refine World.ownsRow_lit w cs n (Nat.le_refl _) hn ?_
  have := congrArg List.length hcs
  rw [bytesV_length] at this
  simpa using this

theorem made_zero (n : Nat) : (madeCells (Value.int .u8 0).cells (n * 1)).toList = bytesV (List.replicate n 0) := by
  show (madeCells #[Value.int .u8 0] (n * 1)).toList = _
  rw [toList_madeCells_one, Nat.mul_one]
  simp [bytesV]
set_option maxRecDepth 100000 in
set_option maxHeartbeats 3200000 in
theorem plain_any (g e m : Nat) (w : World) (hg : g ≤ 1000000) (he : e ≤ 1000000) (hm : m ≤ 1000000) :
    Calls Try.prog 10 #[.int .i64 g, .int .i64 e, .int .i64 m] w fun r w' => ∃ (p1 p2 p3 : PartV) (b : Nat), r = .returned (.slice (some ⟨b, 0, none⟩) 3 3) ∧ w'.ownsRow w.heap.size 27 2 (.slice (some ⟨b, 0, none⟩) 3 3) 3 (encAll [p1, p2, p3]) ∧
      Bytes w' w.heap.size p1 ∧ Bytes w' w.heap.size p2 ∧ Bytes w' w.heap.size p3 ∧ p1.tag = sMaxp ∧ p2.tag = sHead ∧ p3.tag = sHhea ∧ p1.bs = maxpB g ∧ p2.bs = headB e ∧ p3.bs = hheaB m ∧ Below w.heap.size w w' := by
  have hAC := allocC
  go_enter Try.func10, Try.ntmps10
  go_wp2_with (first
    | (go_at_call 18; (with_reducible refine (put_z w.heap.size none 0 0 65536 4 _ _ ?_ ?_ [] _ ?_ ?_ ?_ ?_ ?_).mono ?_); (· first | rfl | omega); (· rfl); (· exact World.ownsRow_nil _ _ _ _); (· exact Nat.le_refl _); (· first | decide | omega); (· first | decide | omega); (· decide); rintro e_ v1 ⟨b1, d1, rfl, hown1, q1, r1, s1, hc1, hd1⟩; have O1 := Lib.hid hown1; have S1 := Lib.hid s1; have C1 := Lib.hid hc1; have z1 := hd1.1; (try simp only [World.size_alloc, World.size_drew] at z1); clear hown1 s1 hc1 hd1)
    | (go_at_call 18; (with_reducible refine (put_z w.heap.size b1 _ d1 g 2 _ _ ?_ ?_ ([] ++ beN 4 65536) _ ?_ ?_ ?_ ?_ ?_).mono ?_); (· first | rfl | omega); (· rfl); (· exact O1.out); (· exact z1); (· first | decide | omega); (· first | decide | omega); (· decide); rintro e_ v2 ⟨b2, d2, rfl, hown2, q2, r2, s2, hc2, hd2⟩; have O2 := Lib.hid hown2; have S2 := Lib.hid s2; have C2 := Lib.hid hc2; have z2 := hd2.1; (try simp only [World.size_alloc, World.size_drew] at z2); clear hown2 s2 hc2 hd2)
    | (at_make; refine wpMake _ rfl _ _ 22 rfl v2.heap.size 5 (.int .u8 0) 1 1 Try.underlying22 u8_info 12 rfl rfl (by decide) (by decide) (Nat.le_refl _) ?_; intro v3 hown3 hc3; have O3 := Lib.hid (owns_eq hown3 (made_zero 12)); have C3 := Lib.hid hc3; have z3 := hc3.size; have y3 := (hown3.lt v2.heap.size (by simp [Value.ownBlock])).2; clear hown3 hc3)
    | (go_at_call 18; (with_reducible refine (put_z v2.heap.size (some ⟨v2.heap.size, 0, none⟩) _ 12 1594834165 4 _ _ ?_ ?_ (List.replicate 12 0) _ ?_ ?_ ?_ ?_ ?_).mono ?_); (· first | rfl | omega); (· rfl); (· exact O3.out); (· omega); (· first | decide | omega); (· first | decide | omega); (· decide); rintro e_ v4 ⟨b4, d4, rfl, hown4, q4, r4, s4, hc4, hd4⟩; have O4 := Lib.hid hown4; have S4 := Lib.hid s4; have C4 := Lib.hid hc4; have z4 := hd4.1; (try simp only [World.size_alloc, World.size_drew] at z4); clear hown4 s4 hc4 hd4)
    | (at_builtin; refine wpApp rfl _ _ 22 rfl v2.heap.size 5 (.int .u8 0) 1 1 Try.underlying22 u8_info rfl (by decide) _ 16 (bytesV ((List.replicate 12 0) ++ beN 4 1594834165)) rfl (owns_below O4.out (balloc (brefl v4) _) (Nat.le_refl _)) (some ⟨v4.heap.size, 0, none⟩) 2 2 (bytesV [0, 0]) rfl rfl (has_alloc _ _ _) (fun h => by cases h) (bytesV_one _) (by decide) (by decide) (by simp; omega) ?_; intro b5 d5 v5 hown5 q5 r5 s5 hc5 hg5; rw [← bytesV_append] at hown5; have O5 := Lib.hid hown5; have S5 := Lib.hid s5; have C5 := Lib.hid (((balloc (brefl v4) _).mono (by omega)).trans hc5); have z5 := hg5.size; simp only [World.size_alloc] at z5; clear hown5 s5 hc5 hg5)
    | (go_at_call 18; (with_reducible refine (put_z v2.heap.size b5 _ d5 e 2 _ _ ?_ ?_ (((List.replicate 12 0) ++ beN 4 1594834165) ++ [0, 0]) _ ?_ ?_ ?_ ?_ ?_).mono ?_); (· first | rfl | omega); (· rfl); (· exact O5.out); (· omega); (· first | decide | omega); (· first | decide | omega); (· decide); rintro e_ v6 ⟨b6, d6, rfl, hown6, q6, r6, s6, hc6, hd6⟩; have O6 := Lib.hid hown6; have S6 := Lib.hid s6; have C6 := Lib.hid hc6; have z6 := hd6.1; (try simp only [World.size_alloc, World.size_drew] at z6); clear hown6 s6 hc6 hd6)
    | (at_builtin; refine wpAppZ rfl _ _ 22 3 9 rfl v2.heap.size 5 Try.underlying22 Try.underlying3 Try.underlying9 u8_info _ 20 ((((List.replicate 12 0) ++ beN 4 1594834165) ++ [0, 0]) ++ beN 2 e) rfl O6.out 34 rfl (by decide) (by omega) ?_; intro b7 d7 v7 hown7 q7 r7 s7 hc7; have O7 := Lib.hid hown7; have S7 := Lib.hid s7; have C7 := Lib.hid hc7; have z7 := hc7.size; clear hown7 s7 hc7)
    | (at_make; refine wpMake _ rfl _ _ 22 rfl v7.heap.size 5 (.int .u8 0) 1 1 Try.underlying22 u8_info 34 rfl rfl (by decide) (by decide) (Nat.le_refl _) ?_; intro v8 hown8 hc8; have O8 := Lib.hid (owns_eq hown8 (made_zero 34)); have C8 := Lib.hid hc8; have z8 := hc8.size; have y8 := (hown8.lt v7.heap.size (by simp [Value.ownBlock])).2; clear hown8 hc8)
    | (go_at_call 18; (with_reducible refine (put_z v7.heap.size (some ⟨v7.heap.size, 0, none⟩) _ 34 m 2 _ _ ?_ ?_ (List.replicate 34 0) _ ?_ ?_ ?_ ?_ ?_).mono ?_); (· first | rfl | omega); (· rfl); (· exact O8.out); (· omega); (· first | decide | omega); (· first | decide | omega); (· decide); rintro e_ v9 ⟨b9, d9, rfl, hown9, q9, r9, s9, hc9, hd9⟩; have O9 := Lib.hid hown9; have S9 := Lib.hid s9; have C9 := Lib.hid hc9; have z9 := hd9.1; (try simp only [World.size_alloc, World.size_drew] at z9); clear hown9 s9 hc9 hd9))
  have b12 : Below w.heap.size w v2 := C1.out.trans C2.out
  have b27 : Below v2.heap.size v2 v7 := (((C3.out.trans C4.out).trans C5.out).trans C6.out).trans C7.out
  have b79 : Below v7.heap.size v7 v9 := C8.out.trans C9.out
  have b9f : ∀ o, Below v9.heap.size v9 (v9.alloc o) := fun o => balloc (brefl v9) o
  have l27 := b27.size
  have l79 := b79.size
  have l12 := b12.size
  have e1 : ([] : List UInt8) ++ beN 4 65536 ++ beN 2 g = maxpB g := by rw [beN4, beN2]; rfl
  have e2 : List.replicate 12 0 ++ beN 4 1594834165 ++ [0, 0] ++ beN 2 e ++ List.replicate 34 0 = headB e := by rw [beN4, beN2]; rfl
  have e3 : List.replicate 34 0 ++ beN 2 m = hheaB m := by rw [beN2]; rfl
  have h1 : Bytes v2 w.heap.size ⟨sMaxp, b2, 6, d2, maxpB g⟩ := ⟨by have := O2.out; rw [e1] at this; exact this, by simp [maxpB, be4, be2], q2, r2, S2.out⟩
  have h2 : Bytes v7 v2.heap.size ⟨sHead, b7, 54, d7, headB e⟩ := ⟨by have := O7.out; rw [e2] at this; exact this, by simp [headB, be4, be2], q7, r7, S7.out⟩
  have h3 : Bytes v9 v7.heap.size ⟨sHhea, b9, 36, d9, hheaB m⟩ := ⟨by have := O9.out; rw [e3] at this; exact this, by simp [hheaB, be2], q9, r9, S9.out⟩
  go_ret
  refine ⟨⟨sMaxp, b2, 6, d2, maxpB g⟩, ⟨sHead, b7, 54, d7, headB e⟩, ⟨sHhea, b9, 36, d9, hheaB m⟩, v9.heap.size, rfl, ?_, ?_, ?_, ?_, rfl, rfl, rfl, rfl, rfl, rfl, ?_⟩
  · exact World.ownsRow_lit v9 _ 3 (by omega) (by decide) rfl
  · exact h1.below (b27.trans ((b79.trans ((b9f _).mono l79)).mono l27)) (Nat.le_refl _)
  · exact (h2.below (b79.trans ((b9f _).mono l79)) (Nat.le_refl _)).mono l12
  · exact (h3.below (b9f _) (Nat.le_refl _)).mono (by omega)
  · exact b12.trans ((b27.trans ((b79.trans ((b9f _).mono l79)).mono l27)).mono l12)
end Go.Proofs.Ythacabmnnpibkaa
